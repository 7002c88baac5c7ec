"""Worlds that agree with what is told: how many there are, and one of them."""

from holdingsshut.errors import NoNumber, UnknownName
from holdingsshut.forms import coefficient, plus_times
from holdingsshut.primes import need_prime
from holdingsshut.spaces import Space

# Stands for the number 1 in equations. It sorts behind every name, so it is
# the lead only of a form in which nothing else is left.
ONE = "~"


def equation(p, f, number):
    """The form that is zero exactly where f has the number."""
    return plus_times(p, f, ((ONE, number),), -1)


def settled(space, f):
    """The number that equations leave to the form, or None if they leave several."""
    rest = space.reduce(f)
    if not rest:
        return 0
    lead, number = rest[0]
    if lead == ONE:
        return number
    return None


def agreeing(p, names, told):
    """How many worlds over the names agree with what is told."""
    need_prime(p)
    _need_declared(names, [f for f, _ in told])
    space = _told_space(p, told)
    if _is_torn(space):
        return 0
    return _power(p, len(names) - space.rank)


def value_counts(p, names, told, f):
    """For each value of the form, how many of the agreeing worlds give it."""
    need_prime(p)
    _need_declared(names, [told_form for told_form, _ in told] + [f])
    space = _told_space(p, told)
    if _is_torn(space):
        return [0] * p
    number = settled(space, f)
    free = len(names) - space.rank
    if number is None:
        return [_power(p, free - 1)] * p
    counts = [0] * p
    counts[number] = _power(p, free)
    return counts


def one_world(p, names, told):
    """The agreeing world in which all names that no row leads have 0, or None."""
    need_prime(p)
    _need_declared(names, [f for f, _ in told])
    space = _told_space(p, told)
    if _is_torn(space):
        return None
    numbers = {row[0][0]: -coefficient(row, ONE) % p for row in space}
    return [numbers.get(name, 0) for name in names]


def moved_world(p, world, shift, *, by=1):
    """A new world: the old one plus `by` times the shift."""
    need_prime(p)
    for name, _ in shift:
        if name not in world:
            raise NoNumber(name)
    moves = dict(shift)
    return {name: (world[name] + by * moves.get(name, 0)) % p for name in world}


def _need_declared(names, forms):
    """Raise UnknownName for the first name of the forms that is not among the names."""
    declared = {name: True for name in names}
    for f in forms:
        for name, _ in f:
            if name not in declared:
                raise UnknownName(name)


def _told_space(p, told):
    """The space of the equations of what is told."""
    return Space.over(p, [equation(p, f, number) for f, number in told])


def _is_torn(space):
    """True if the equations contradict each other: they say that 1 is 0."""
    return ((ONE, 1),) in space


def _power(p, exponent):
    product = 1
    for _ in range(exponent):
        product = product * p
    return product
