"""Thieves and friends: papers that run on numbers and boxes alone."""

from holdingsshut.boards import device_named, lot_rules
from holdingsshut.errors import UnknownName, WrongKey
from holdingsshut.forms import plain_name, unit, value
from holdingsshut.guesses import Trials, need_lock_slots
from holdingsshut.papers import find_paper, sum_of_paper
from holdingsshut.pebbles import need_cells
from holdingsshut.sealing import unseal
from holdingsshut.sources import GUESS, TELL, sources


def rob(machine, steps, last, *, guessed=(), cells):
    """The number that the paper computes on the machine's record, and the steps of its trials."""
    plan = machine.plan
    tables = machine.tables
    need_lock_slots(plan.locks, guessed)
    need_cells(cells)
    told = sources(plan, machine.course_done, guessed=guessed)
    sum_of_paper(plan.p, [rule for _, _, rule in told], steps, last)
    entries = _entries(told, machine.record())
    trials = Trials(plan.p, tables.up, tables.down, cells=cells)
    numbers = []
    for at, mixes in steps:
        keys = [_number_of_mix(plan.p, numbers, mix) for mix in mixes]
        if told[at][1] == GUESS:
            numbers.append(_guess(machine, trials, told, at, keys, entries[at]))
        else:
            numbers.append(_opened(tables, keys, entries[at]))
    return _number_of_mix(plan.p, numbers, last), trials.steps


def _entries(told, record):
    """For each source its entry of the record; for a guess that of the letter which tests it."""
    entries = []
    at = 0
    for _, kind, _ in told:
        if kind == GUESS:
            entries.append(entries[-1])
        else:
            entries.append(record[at])
            at += 1
    return entries


def _number_of_mix(p, numbers, mix):
    return sum([by * numbers[at] for at, by in mix]) % p


def _opened(tables, keys, entry):
    """The number of an entry: what is told, or what the keys unseal."""
    if entry[0] == TELL:
        return entry[1]
    return unseal(tables, keys, entry[1:])


def _guess(machine, trials, told, at, keys, entry):
    """The number of the guessed lock: that of the first candidate by which the letter opens."""
    needs, _ = told[at - 1][2]
    lock_need = told[at][2][1]
    place = needs.index(lock_need)
    salt, length, candidates = _lock_named(machine.plan, plain_name(lock_need[0][0]))
    tried = 0
    number = trials(salt, length, candidates[tried])
    # The lock's number comes from one of its candidates, so one of them opens the letter.
    while not _opens(machine.tables, keys[:place] + [number] + keys[place:], entry):
        tried += 1
        number = trials(salt, length, candidates[tried])
    return number


def _lock_named(plan, slot):
    """The salt, the length and the candidates of the lock of this slot."""
    return [lock[1:] for lock in plan.locks if lock[0] == slot][0]


def _opens(tables, keys, entry):
    try:
        _opened(tables, keys, entry)
    except WrongKey:
        return False
    return True


def friend_number(machine, lot, slot):
    """The present number of the slot, computed from the lot's drawers and the posted boxes."""
    plan = machine.plan
    if slot not in plan.slots:
        raise UnknownName(slot)
    for name in lot:
        device_named(plan, name)
    world = machine.present_world()
    posted = machine.posted()
    rules = lot_rules(plan, [rule for rule, _ in posted], lot)
    told = rules[:len(rules) - len(posted)]
    entries = [(TELL, value(plan.p, gives, world)) for _, gives in told] + [("box",) + box for _, box in posted]
    steps, last = find_paper(plan.p, rules, unit(slot))
    numbers = []
    for at, mixes in steps:
        keys = [_number_of_mix(plan.p, numbers, mix) for mix in mixes]
        numbers.append(_opened(machine.tables, keys, entries[at]))
    return _number_of_mix(plan.p, numbers, last)
