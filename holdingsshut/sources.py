"""Sources: the rules that the foe gets along a course, and what it knows by them."""

from holdingsshut.courses import replay
from holdingsshut.forms import dated_name, old_name, renamed, unit
from holdingsshut.guesses import need_lock_slots
from holdingsshut.rules import close, renamed_rule, rule_names
from holdingsshut.spaces import Space

STANDING = "standing"
TELL = "tell"
LETTER = "letter"
GUESS = "guess"


def names_any(rule, slots):
    """True if the rule names one of the slots by its plain name."""
    return any([name in slots for name in rule_names(rule)])


def posted_again(plan, deed):
    """The standing letters that name a slot which the deed renews."""
    return [rule for rule in plan.standing if names_any(rule, deed.renews)]


def start_sources(plan, guessed):
    """The pairs (kind, rule) that the foe gets by the start, over slots."""
    return _instant(plan.standing, plan.start, guessed)


def deed_sources(plan, deed, guessed):
    """The pairs (kind, rule) that the foe gets by a deed, over slots and their old names."""
    return _instant(posted_again(plan, deed), deed, guessed)


def _instant(standing, deed, guessed):
    """What the foe gets at one instant: standing letters, tells, heard letters with guess rules."""
    found = [(STANDING, rule) for rule in standing]
    found.extend([(TELL, ((), f)) for f in deed.tells])
    for needs, gives, heard in deed.letters:
        if heard:
            found.append((LETTER, (needs, gives)))
            found.extend([(GUESS, rule) for rule in _guess_rules(needs, guessed)])
    return found


def _guess_rules(needs, guessed):
    """The rule that gives a guessed lock which is among a letter's needs; none without one."""
    units = [unit(slot) for slot in guessed]
    # No plan has a letter with two needs that are locks.
    return [(needs[:at] + needs[at + 1:], need) for at, need in enumerate(needs) if need in units]


def sources(plan, course, *, guessed=()):
    """The list of the tuples (time, kind, rule) that the foe gets along the course."""
    need_lock_slots(plan.locks, guessed)
    found = []
    for time, (_, _, dates) in enumerate(replay(plan, course)):
        if time == 0:
            table = dates_table(dates, [])
            told = start_sources(plan, guessed)
        else:
            deed = plan.deed_named(course[time - 1])
            table = dates_table(dates, deed.renews)
            told = deed_sources(plan, deed, guessed)
        found.extend([(time, kind, renamed_rule(plan.p, rule, table)) for kind, rule in told])
    return found


def dates_table(dates, renews):
    """A dict from slots, and from the old names of renewed slots, to dated names."""
    table = {slot: dated_name(slot, dates[slot]) for slot in dates}
    for slot in renews:
        table[old_name(slot)] = dated_name(slot, dates[slot] - 1)
    return table


def source_rules(plan, course, guessed):
    """The rules of the sources, in order."""
    return [rule for _, _, rule in sources(plan, course, guessed=guessed)]


def present_table(plan, course):
    """A dict from slots to their dated names behind the course."""
    return dates_table(replay(plan, course)[-1][2], [])


def known(plan, course, *, guessed=()):
    """The closure of the sources: what the foe knows behind the course."""
    return close(plan.p, source_rules(plan, course, guessed))


def present_part(plan, course, *, guessed=()):
    """The basis of what the foe knows in present numbers alone, written with the slots' names."""
    space = known(plan, course, guessed=guessed)
    table = present_table(plan, course)
    slots = {table[slot]: slot for slot in table}
    present = space.within(list(slots))
    return tuple(Space.over(plan.p, [renamed(plan.p, f, slots) for f in present]))
