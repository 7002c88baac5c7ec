"""The search through all holdings that the foe can come to, and the price of a theft."""

from holdingsshut.courses import allowed_deeds
from holdingsshut.errors import TooMany
from holdingsshut.forms import unit
from holdingsshut.guesses import ordered_lock_sets
from holdingsshut.holdings import first_hold, first_state, holding_of, state_covers, stepped_state, stolen_of
from holdingsshut.holds import covers
from holdingsshut.papers import find_paper
from holdingsshut.sources import present_table, source_rules


def judge(plan, *, guessed=(), limit=200):
    """A shut list, or the first shortest theft with its paper."""

    def is_theft(state, _):
        return stolen_of(plan, state) is not None

    kept, end = _search(plan, guessed, limit, is_theft)
    if end is None:
        return "shut", tuple([holding_of(state) for state, _ in kept])
    last, course = end
    return _theft(plan, course, stolen_of(plan, last), guessed)


def _theft(plan, course, secret, guessed):
    """The answer that tells a theft."""
    goal = unit(present_table(plan, course)[secret])
    steps, last = find_paper(plan.p, source_rules(plan, course, guessed), goal)
    return "theft", course, secret, steps, last


def heals(plan, deed_name, *, guessed=(), limit=200):
    """A list of holdings without a survivor of the deed, or the first shortest course that it does not heal."""
    plan.deed_named(deed_name)
    first = first_hold(plan, guessed=guessed)

    def survives(state, course):
        return course != () and course[-1] == deed_name and not covers(first, state[2])

    kept, end = _search(plan, guessed, limit, survives)
    if end is None:
        return "heals", tuple([holding_of(state) for state, _ in kept])
    return "survives", end[1]


def _search(plan, guessed, limit, ends):
    """The kept pairs (state, course), and the met pair that ends the search or None."""
    first = first_state(plan, guessed)
    if ends(first, ()):
        return [], (first, ())
    kept = [(first, ())]
    at = 0
    while at < len(kept):
        state, course = kept[at]
        for deed in allowed_deeds(plan, state[0]):
            after = stepped_state(plan, state, deed, guessed)
            longer = course + (deed.name,)
            if ends(after, longer):
                return kept, (after, longer)
            if not any([state_covers(other, after) for other, _ in kept]):
                if len(kept) >= limit:
                    raise TooMany(limit)
                kept.append((after, longer))
        at += 1
    return kept, None


def lock_sets(plan, *, cells):
    """All sets of the plan's locks: by cost, then by count, then as tuples."""
    return [lot for _, lot in ordered_lock_sets(plan.locks, cells)]


def price(plan, *, cells, limit=200):
    """The least cost of locks against which there is a theft, with what shows it."""
    judged = []
    for cost, lot in ordered_lock_sets(plan.locks, cells):
        answer = judge(plan, guessed=lot, limit=limit)
        if answer[0] == "theft":
            return "price", cost, lot, answer, _greatest([told for told in judged if told[0] < cost])
        judged.append((cost, lot, answer[1]))
    # The set of all locks is the last one.
    return "none", ((judged[-1][1], judged[-1][2]),)


def _greatest(judged):
    """The pairs (lot, holdings) of those lots that are in no other of the judged ones."""
    lots = [lot for _, lot, _ in judged]
    return tuple([(lot, holdings) for _, lot, holdings in judged if not _is_in_another(lot, lots)])


def _is_in_another(lot, lots):
    return any([other != lot and all([slot in other for slot in lot]) for other in lots])
