"""Plans of vaults, and the deeds that change them."""

from holdingsshut.errors import NoDeed
from holdingsshut.plancheck import check_plan
from holdingsshut.primes import need_prime


class Deed:
    """What one instant changes: marks, numbers, letters, what the foe is told."""

    def __init__(
        self, name, *, when=None, unless=None, sets=(), clears=(), renews=(), letters=(), tells=(), hands=()
    ):
        self.name = name
        self.when = when
        self.unless = unless
        self.sets = tuple(sets)
        self.clears = tuple(clears)
        self.renews = tuple(renews)
        self.letters = tuple([(_forms(needs), _form(gives), heard) for needs, gives, heard in letters])
        self.tells = _forms(tells)
        self.hands = tuple(hands)


class Plan:
    """A vault with all its deeds; made only if nothing in it is refused."""

    def __init__(self, p, *, start, marks=(), devices=(), locks=(), standing=(), roads=(), promises=(), deeds=()):
        self.p = need_prime(p)
        self.start = _copy(start)
        self.marks = tuple(marks)
        self.devices = tuple([(name, _forms(drawer), out) for name, drawer, out in devices])
        self.locks = tuple([(slot, salt, length, tuple(found)) for slot, salt, length, found in locks])
        self.standing = tuple([(_forms(needs), _form(gives)) for needs, gives in standing])
        self.roads = tuple([tuple(road) for road in roads])
        self.promises = tuple([tuple(promise) for promise in promises])
        self.deeds = tuple([_copy(deed) for deed in deeds])
        check_plan(self)

    def __iter__(self):
        return iter(self.deeds)

    @property
    def slots(self):
        """The names of the vault's numbers, in order."""
        return self.start.renews

    @property
    def secrets(self):
        """The slots of the roads, in order."""
        return tuple([secret for secret, _ in self.roads])

    def deed_named(self, deed_name):
        """The deed of this name, which is not the start."""
        for deed in self.deeds:
            if deed.name == deed_name:
                return deed
        raise NoDeed(0, deed_name)


def _form(f):
    return tuple([tuple(pair) for pair in f])


def _forms(forms):
    return tuple([_form(f) for f in forms])


def _copy(deed):
    """A deed that keeps its attributes whatever the caller does to the other one."""
    return Deed(
        deed.name, when=deed.when, unless=deed.unless, sets=deed.sets, clears=deed.clears, renews=deed.renews,
        letters=deed.letters, tells=deed.tells, hands=deed.hands,
    )
