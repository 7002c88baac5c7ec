"""Audits: the state of each secret along a course, who is to blame, and what is left open."""

from holdingsshut.courses import replay
from holdingsshut.errors import NotHeld, TooBig, UnknownName
from holdingsshut.forms import dated_name, form_names, plain_name, renamed, unit, value
from holdingsshut.lots import parts_of
from holdingsshut.papers import blind_paper, check_blind, check_paper, find_paper
from holdingsshut.rules import close, fire, is_met
from holdingsshut.sources import TELL, known, present_table, source_rules, sources
from holdingsshut.spaces import Space
from holdingsshut.ways import value_counts

MOST_TELL_TIMES = 6
HELD = "held"
# By whether the foe knows the secret and whether the secret is spent.
STATES = {(False, False): "shut", (False, True): "free", (True, True): "open", (True, False): "stolen"}


def audit(plan, course, *, guessed=()):
    """The tuples (time, secret, state) of each time and each secret."""
    told = sources(plan, course, guessed=guessed)
    space = Space(plan.p)
    waiting = []
    found = []
    for time, (_, spent, dates) in enumerate(replay(plan, course)):
        waiting.extend([rule for at, _, rule in told if at == time])
        fire(space, waiting)
        waiting = [rule for rule in waiting if not is_met(space, rule[0])]
        for secret in plan.secrets:
            is_known = unit(dated_name(secret, dates[secret])) in space
            found.append((time, secret, STATES[(is_known, secret in spent)]))
    return found


def tell_times(plan, course):
    """The ascending list of the times at which the foe is told something."""
    replay(plan, course)
    deeds = [plan.start] + [plan.deed_named(name) for name in course]
    return [time for time, deed in enumerate(deeds) if deed.tells]


def blames(plan, course, secret, *, guessed=()):
    """The least sets of tell times with which the foe knows the secret behind the course."""
    told = sources(plan, course, guessed=guessed)
    if secret not in plan.secrets:
        raise UnknownName(secret)
    times = tell_times(plan, course)
    if len(times) > MOST_TELL_TIMES:
        raise TooBig("tells")
    goal = unit(present_table(plan, course)[secret])
    found = []
    # Parts come by length, so what a set contains was asked before it.
    for part in parts_of(times):
        if not any([_has_all(part, blame) for blame in found]) and goal in close(plan.p, _told_at(told, part)):
            found.append(part)
    return found


def _has_all(part, other):
    return all([time in part for time in other])


def _told_at(told, times):
    """The rules of the sources without the tells of other times."""
    return [rule for time, kind, rule in told if kind != TELL or time in times]


def proof(plan, course, f, *, guessed=()):
    """The paper which shows that the foe knows the form, or that it does not."""
    rules = source_rules(plan, course, guessed)
    goal = _present_goal(plan, course, f)
    try:
        steps, last = find_paper(plan.p, rules, goal)
    except NotHeld:
        basis, shift = blind_paper(plan.p, rules, goal)
        return "blind", basis, shift
    return HELD, steps, last


def check_proof(plan, course, f, proof, *, guessed=()):
    """Return None, or raise the first fault of the proof."""
    rules = source_rules(plan, course, guessed)
    goal = _present_goal(plan, course, f)
    kind, one, two = proof
    if kind == HELD:
        check_paper(plan.p, rules, goal, one, two)
    else:
        check_blind(plan.p, rules, goal, one, two)


def _present_goal(plan, course, f):
    """The form over slots, written at present dates."""
    for name in form_names(f):
        if name not in plan.slots:
            raise UnknownName(name)
    return renamed(plan.p, f, present_table(plan, course))


def exposed(plan, course, *, guessed=()):
    """The slots whose present number the foe knows, in the plan's order."""
    space = known(plan, course, guessed=guessed)
    table = present_table(plan, course)
    return [slot for slot in plan.slots if unit(table[slot]) in space]


def reading_counts(machine, f):
    """For each value of the form, in how many worlds that agree with what the foe has read it has it."""
    plan = machine.plan
    locks = [lock[0] for lock in plan.locks]
    for name in form_names(f):
        if name in locks or name not in plan.slots:
            raise UnknownName(name)
    goal = _present_goal(plan, machine.course_done, f)
    world = machine.dated_world()
    free = {name: world[name] for name in world if plain_name(name) not in locks}
    # Rows that name a lock are left out.
    rows = [row for row in known(plan, machine.course_done) if all([name in free for name in form_names(row)])]
    return value_counts(plan.p, list(free), [(row, value(plan.p, row, free)) for row in rows], goal)
