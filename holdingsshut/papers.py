"""Papers: steps that compute a goal from numbers alone, and shifts that blind for it."""

from holdingsshut.errors import BadBlind, BadStep
from holdingsshut.forms import moved_by, sum_of_mix
from holdingsshut.primes import lies_within, need_prime
from holdingsshut.rules import close, fire, unmet
from holdingsshut.spaces import Space


def find_paper(p, rules, goal):
    """The canonical steps paper for the goal."""
    space = Space(p)
    log = fire(space, rules)
    last = space.mix(goal)
    # A need lies in the span of what was accepted before its rule fired, so its
    # only mix names no later step.
    steps = [(at, tuple([space.mix(need) for need in rules[at][0]])) for at in log]
    return _without_idle_steps(steps, last)


def _without_idle_steps(steps, last):
    """The paper without the steps that lead to nothing, numbered anew."""
    marked = _marked_steps(steps, last)
    new = {number: at for at, number in enumerate(marked)}
    kept = [
        (steps[number][0], tuple([_renumbered(mix, new) for mix in steps[number][1]])) for number in marked
    ]
    return tuple(kept), _renumbered(last, new)


def _marked_steps(steps, last):
    """The ascending numbers of the steps that `last` and the steps behind them need."""
    needed = {number: True for number, _ in last}
    marked = []
    for number in reversed(range(len(steps))):
        if number in needed:
            marked.append(number)
            for mix in steps[number][1]:
                needed.update({before: True for before, _ in mix})
    marked.reverse()
    return marked


def _renumbered(mix, new):
    return tuple([(new[number], by) for number, by in mix])


def check_paper(p, rules, goal, steps, last):
    """Return None, or raise BadStep for the first bad step of the paper."""
    if sum_of_paper(p, rules, steps, last) != goal:
        raise BadStep(len(steps))


def sum_of_paper(p, rules, steps, last):
    """The sum of the last mix; BadStep for the first bad step, or for a last mix that is none."""
    need_prime(p)
    given = []
    for at, (number, mixes) in enumerate(steps):
        if not lies_within(number, 0, len(rules) - 1):
            raise BadStep(at)
        needs, gives = rules[number]
        if len(mixes) != len(needs):
            raise BadStep(at)
        if not all([_is_mix(p, given, mix) and sum_of_mix(p, given, mix) == need for mix, need in zip(mixes, needs)]):
            raise BadStep(at)
        given.append(gives)
    if not _is_mix(p, given, last):
        raise BadStep(len(steps))
    return sum_of_mix(p, given, last)


def _is_mix(p, given, mix):
    """True if the pairs are a mix of the forms given so far."""
    least = 0
    for number, by in mix:
        if not lies_within(number, least, len(given) - 1) or not lies_within(by, 1, p - 1):
            return False
        least = number + 1
    return True


def is_lean(steps, last):
    """True if each step stands in a mix of a later step or in `last`."""
    return len(_marked_steps(steps, last)) == len(steps)


def blind_paper(p, rules, goal):
    """The basis of the closure, and its blind shift of the goal."""
    space = close(p, rules)
    shift = space.blind(goal)
    return tuple(space), shift


def check_blind(p, rules, goal, basis, shift):
    """Return None, or raise BadBlind for the first fault of the paper."""
    if unmet(Space.over(p, basis), rules):
        raise BadBlind("basis")
    moves = dict(shift)
    if moved_by(p, goal, moves) != 1 or not all([moved_by(p, f, moves) == 0 for f in basis]):
        raise BadBlind("shift")
