"""Holdings: marks, spent secrets, and what the foe holds, stepped deed by deed."""

from holdingsshut.courses import first_marks, first_spent, is_allowed, marks_behind, replay, spent_behind
from holdingsshut.fading import fade_all
from holdingsshut.forms import old_name, unit
from holdingsshut.formulas import lot_of
from holdingsshut.guesses import need_lock_slots
from holdingsshut.holds import Hold, covers, extended, renamed_hold
from holdingsshut.sources import deed_sources, start_sources

# A state is a tuple (marks, spent, hold): a holding whose hold is made.


def first_hold(plan, *, guessed=()):
    """What the foe holds right after the start."""
    need_lock_slots(plan.locks, guessed)
    return Hold(plan.p, [], [rule for _, rule in start_sources(plan, guessed)])


def step_hold(plan, hold, deed_name, *, guessed=()):
    """What the foe holds after the deed, if it held the hold before."""
    deed = plan.deed_named(deed_name)
    need_lock_slots(plan.locks, guessed)
    return stepped_hold(plan, hold, deed, guessed)


def stepped_hold(plan, hold, deed, guessed):
    """The hold after a deed that was looked up."""
    olds = {slot: old_name(slot) for slot in deed.renews}
    rules = [rule for _, rule in deed_sources(plan, deed, guessed)]
    wider = extended(renamed_hold(hold, olds), [], rules)
    return fade_all(wider, list(olds.values()))


def hold_behind(plan, course, *, guessed=()):
    """What the foe holds behind the course."""
    need_lock_slots(plan.locks, guessed)
    replay(plan, course)
    hold = first_hold(plan, guessed=guessed)
    for name in course:
        hold = stepped_hold(plan, hold, plan.deed_named(name), guessed)
    return hold


def first_state(plan, guessed):
    """The state right after the start."""
    return first_marks(plan), first_spent(plan), first_hold(plan, guessed=guessed)


def stepped_state(plan, state, deed, guessed):
    """The state after a deed, whether it is allowed or not."""
    marks, spent, hold = state
    after = stepped_hold(plan, hold, deed, guessed)
    return marks_behind(deed, marks), spent_behind(plan, deed, marks, spent), after


def state_of(plan, holding):
    """The state of a holding that is handed in."""
    marks, spent, basis, boxes = holding
    return lot_of(marks), lot_of(spent), Hold(plan.p, basis, boxes)


def holding_of(state):
    """The holding that is written down for a state."""
    marks, spent, hold = state
    return marks, spent, hold.basis, hold.boxes


def state_covers(big, small):
    """True if whoever is in the big state is no worse off than in the small one."""
    if big[0] != small[0] or not all([secret in small[1] for secret in big[1]]):
        return False
    return covers(big[2], small[2])


def stolen_of(plan, state):
    """The first secret that is known and not spent in the state, or None."""
    _, spent, hold = state
    for secret in plan.secrets:
        if secret not in spent and unit(secret) in hold:
            return secret
    return None


def is_survivor(plan, first, state, deed, guessed):
    """True if the deed is allowed in the state and leaves more than the first hold."""
    return is_allowed(deed, state[0]) and not covers(first, stepped_hold(plan, state[2], deed, guessed))


def first_holding(plan, *, guessed=()):
    """The holding right after the start."""
    return holding_of(first_state(plan, guessed))


def step_holding(plan, holding, deed_name, *, guessed=()):
    """The holding after the deed, whether it is allowed or not."""
    deed = plan.deed_named(deed_name)
    need_lock_slots(plan.locks, guessed)
    return holding_of(stepped_state(plan, state_of(plan, holding), deed, guessed))


def holding_covers(plan, big, small):
    """True if the big holding covers the small one."""
    return state_covers(state_of(plan, big), state_of(plan, small))


def stolen(plan, holding):
    """The first secret, in the order of the roads, that is stolen in the holding, or None."""
    return stolen_of(plan, state_of(plan, holding))


def survivors(plan, holdings, deed_name, *, guessed=()):
    """The numbers of the entries that are survivors of the deed."""
    deed = plan.deed_named(deed_name)
    first = first_hold(plan, guessed=guessed)
    states = [state_of(plan, holding) for holding in holdings]
    return [at for at, state in enumerate(states) if is_survivor(plan, first, state, deed, guessed)]


def healed(plan, course, *, guessed=()):
    """True if the foe is no better off behind the course than right after the start."""
    behind = hold_behind(plan, course, guessed=guessed)
    return covers(first_hold(plan, guessed=guessed), behind)
