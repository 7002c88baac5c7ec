"""Checks of what the search returns, made without any search."""

from holdingsshut.courses import allowed_deeds, replay
from holdingsshut.errors import NotPrice, NotShut, NotTheft, UnknownName
from holdingsshut.forms import unit
from holdingsshut.guesses import guess_cost, need_lock_slots, ordered_lock_sets
from holdingsshut.holdings import first_hold, first_state, is_survivor, state_covers, state_of, stepped_state, stolen_of
from holdingsshut.papers import check_paper
from holdingsshut.primes import is_whole
from holdingsshut.rules import names_in, rule_names
from holdingsshut.sources import present_table, source_rules


def check_shut(plan, holdings, *, guessed=()):
    """Return None, or raise NotShut for the first fault of the shut list."""
    need_lock_slots(plan.locks, guessed)
    states = _states(plan, holdings, guessed)
    for at, state in enumerate(states):
        if stolen_of(plan, state) is not None:
            raise NotShut("secret", at, "")
        _need_steps(plan, states, at, guessed)


def check_heals(plan, holdings, deed_name, *, guessed=()):
    """Return None, or raise NotShut for the first fault of the list that shows that a deed heals."""
    deed = plan.deed_named(deed_name)
    first = first_hold(plan, guessed=guessed)
    states = _states(plan, holdings, guessed)
    for at in range(len(states)):
        _need_steps(plan, states, at, guessed)
    for at, state in enumerate(states):
        if is_survivor(plan, first, state, deed, guessed):
            raise NotShut("survivor", at, deed_name)


def is_lot_of(lot, names):
    """True if the value is a lot of some of the names: an ascending tuple, each once."""
    if not isinstance(lot, tuple) or not all([name in names for name in lot]):
        return False
    return all([name < after for name, after in zip(lot, lot[1:])])


def names_within(forms, rules, slots):
    """True if the forms and rules name slots alone."""
    if not all([name in slots for name in names_in(forms)]):
        return False
    return all([name in slots for rule in rules for name in rule_names(rule)])


def _states(plan, holdings, guessed):
    """The states of the entries, of which the form is right and some one covers the first holding."""
    for at, (marks, spent, basis, boxes) in enumerate(holdings):
        lots_are_right = is_lot_of(marks, plan.marks) and is_lot_of(spent, plan.secrets)
        if not lots_are_right or not names_within(basis, boxes, plan.slots):
            raise NotShut("form", at, "")
    states = [state_of(plan, holding) for holding in holdings]
    if not _is_covered(states, first_state(plan, guessed)):
        raise NotShut("start", 0, "")
    return states


def _is_covered(states, small):
    return any([state_covers(big, small) for big in states])


def _need_steps(plan, states, at, guessed):
    """Raise NotShut for the first deed after which no entry covers the stepped entry number `at`."""
    for deed in allowed_deeds(plan, states[at][0]):
        if not _is_covered(states, stepped_state(plan, states[at], deed, guessed)):
            raise NotShut("step", at, deed.name)


def check_theft(plan, course, secret, steps, last, *, guessed=()):
    """Return None, or raise the first fault of the theft and its paper."""
    need_lock_slots(plan.locks, guessed)
    times = replay(plan, course)
    if secret not in plan.secrets:
        raise UnknownName(secret)
    if secret in times[-1][1]:
        raise NotTheft("spent")
    goal = unit(present_table(plan, course)[secret])
    check_paper(plan.p, source_rules(plan, course, guessed), goal, steps, last)


def check_price(plan, answer, *, cells):
    """Return None, or raise the first fault of the answer that tells a price or that there is none."""
    sets = ordered_lock_sets(plan.locks, cells)
    if answer[0] == "price":
        _, cost, locks, theft, shuts = answer
        due = guess_cost(plan.locks, locks, cells=cells)
        if not is_whole(cost) or cost != due:
            raise NotPrice("cost")
        _, course, secret, steps, last = theft
        check_theft(plan, course, secret, steps, last, guessed=locks)
        sets = [told for told in sets if told[0] < cost]
    else:
        _, shuts = answer
    for _, lot in sets:
        if not any([_is_part(lot, shut_lot) for shut_lot, _ in shuts]):
            raise NotPrice("open")
    for shut_lot, holdings in shuts:
        check_shut(plan, holdings, guessed=shut_lot)


def _is_part(lot, other):
    return all([name in other for name in lot])
