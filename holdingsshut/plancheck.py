"""What is refused of a plan, in the order in which it is looked for."""

from holdingsshut.errors import BadLock, BadStart, LockMisused, OldMisused, TooBig, TwiceNamed, UnknownName
from holdingsshut.forms import first_repeated, form_names, is_old, need_plain, plain_name, unit
from holdingsshut.formulas import check_formula, check_formula_or_none, formula_names, lot_of
from holdingsshut.primes import lies_within

MOST_OF_PLAN = (("marks", 12), ("slots", 60), ("devices", 12), ("deeds", 24))
MOST_IN_DRAWER = 24
MOST_LOCKS = 4
MOST_STANDING = 80
MOST_ROADS = 16
MOST_PROMISES = 16
MOST_LETTERS = 80
MOST_TELLS = 24
MOST_NEEDS = 4
MOST_LENGTH = 120


def check_plan(plan):
    """Raise the first refusal of a plan of tuples, if there is one."""
    for names in _own_names(plan):
        for name in names:
            need_plain(name)
    for names in _own_names(plan) + _other_lists(plan):
        twice = first_repeated(names)
        if twice is not None:
            raise TwiceNamed(twice)
    _check_sizes(plan)
    for slot, salt, length, candidates in plan.locks:
        if not _is_lock(plan.p, salt, length, candidates):
            raise BadLock(slot)
    _check_formulas(plan)
    _check_start(plan.start)
    for names, declared in _places_of_names(plan):
        for name in names:
            if name not in declared:
                raise UnknownName(name)
    _check_forms(plan)


def _start_and_deeds(plan):
    return (plan.start,) + plan.deeds


def _lock_slots(plan):
    return [lock[0] for lock in plan.locks]


def _own_names(plan):
    """The lists of the names that the plan gives: marks, slots, devices, deeds."""
    return [plan.marks, plan.slots, _device_names(plan), [deed.name for deed in plan.deeds]]


def _device_names(plan):
    return [device[0] for device in plan.devices]


def _other_lists(plan):
    """The other lists that name nothing twice, in their order."""
    start = plan.start
    lists = [plan.secrets, _lock_slots(plan), start.sets, start.clears, start.renews, start.hands]
    for deed in plan.deeds:
        # No mark is set and cleared by one deed.
        lists.extend([deed.sets, deed.clears, deed.renews, deed.hands, deed.sets + deed.clears])
    return lists


def _check_sizes(plan):
    """Raise TooBig for the first bound that is exceeded anywhere in the plan."""
    deeds = _start_and_deeds(plan)
    bounds = [(what, [len(names)], most) for (what, most), names in zip(MOST_OF_PLAN, _own_names(plan))]
    bounds.extend([
        ("drawer", [len(drawer) for _, drawer, _ in plan.devices], MOST_IN_DRAWER),
        ("locks", [len(plan.locks)], MOST_LOCKS),
        ("standing", [len(plan.standing)], MOST_STANDING),
        ("roads", [len(plan.roads)], MOST_ROADS),
        ("promises", [len(plan.promises)], MOST_PROMISES),
        ("letters", [len(deed.letters) for deed in deeds], MOST_LETTERS),
        ("tells", [len(deed.tells) for deed in deeds], MOST_TELLS),
    ])
    for what, counts, most in bounds:
        if any([count > most for count in counts]):
            raise TooBig(what)
    letters = list(plan.standing) + [letter for deed in deeds for letter in deed.letters]
    if not all([1 <= len(letter[0]) <= MOST_NEEDS for letter in letters]):
        raise TooBig("needs")


def _is_lock(p, salt, length, candidates):
    """True if a lock may have this salt, length and candidates."""
    if not 1 <= len(candidates) <= p:
        return False
    if not all([lies_within(number, 0, p - 1) for number in candidates + (salt,)]):
        return False
    return lies_within(length, 1, MOST_LENGTH) and len(set(candidates)) == len(candidates)


def _check_formulas(plan):
    """Raise BadGate for the first formula that is none; the start's are not looked at."""
    for _, formula in plan.roads:
        check_formula_or_none(formula)
    for _, formula, when in plan.promises:
        check_formula(formula)
        check_formula_or_none(when)
    for deed in plan.deeds:
        check_formula_or_none(deed.when)
        check_formula_or_none(deed.unless)


def _check_start(start):
    if start.when is not None or start.unless is not None or start.clears or start.hands:
        raise BadStart()


def _names_of(formula):
    """The lot of the formula's names; none for None."""
    if formula is None:
        return ()
    return formula_names(formula)


def _slots_in(forms):
    """The names in forms, old names as plain ones."""
    return [_slot_of(name) for f in forms for name in form_names(f)]


def _slot_of(name):
    if is_old(name):
        return plain_name(name)
    return name


def _places_of_names(plan):
    """Along the walk: pairs of the names that stand somewhere and of what is declared for them."""
    marks, slots, devices = plan.marks, plan.slots, _device_names(plan)
    places = []
    for _, drawer, out in plan.devices:
        places.append((_slots_in(drawer), slots))
        if out is not None:
            places.append(([out], marks))
    places.append((_lock_slots(plan), slots))
    places.extend([(_slots_in(needs + (gives,)), slots) for needs, gives in plan.standing])
    for secret, formula in plan.roads:
        places.extend([([secret], slots), (_names_of(formula), marks)])
    for slot, formula, when in plan.promises:
        places.extend([([slot], slots), (_names_of(formula), devices), (_names_of(when), marks)])
    for deed in _start_and_deeds(plan):
        formulas = _names_of(deed.when) + _names_of(deed.unless)
        places.extend([(formulas + deed.sets + deed.clears, marks), (deed.renews, slots)])
        places.extend([(_slots_in(needs + (gives,)), slots) for needs, gives, _ in deed.letters])
        places.extend([(_slots_in(deed.tells), slots), (deed.hands, devices)])
    return places


def _check_forms(plan):
    """Raise LockMisused, then OldMisused for the first form in which a name is misused."""
    locks = _lock_slots(plan)
    places = _places_of_forms(plan, locks)
    for f, may_be_lock, _ in places:
        named = lot_of([slot for slot in _slots_in([f]) if slot in locks])
        if named and not (may_be_lock and f == unit(named[0])):
            raise LockMisused(named[0])
    for f, _, renewed in places:
        for name in form_names(f):
            if is_old(name) and plain_name(name) not in renewed:
                raise OldMisused(name)


def _places_of_forms(plan, locks):
    """Along the walk: each form, whether it may be a lock's unit, and the slots that may be old in it."""
    places = [(f, True, ()) for _, drawer, _ in plan.devices for f in drawer]
    places.extend([(f, False, ()) for needs, gives in plan.standing for f in needs + (gives,)])
    places.extend([(unit(secret), False, ()) for secret in plan.secrets])
    for deed, renewed in [(plan.start, ())] + [(deed, deed.renews) for deed in plan.deeds]:
        for needs, gives, _ in deed.letters:
            places.extend([(need, may_be_lock, renewed) for need, may_be_lock in _need_places(needs, locks)])
            places.append((gives, False, renewed))
        places.extend([(f, True, renewed) for f in deed.tells])
    return places


def _need_places(needs, locks):
    """Each need of a letter, and whether it may be a lock's unit: only the first such one may."""
    units = [unit(slot) for slot in locks]
    return [(need, not any([before in units for before in needs[:at]])) for at, need in enumerate(needs)]
