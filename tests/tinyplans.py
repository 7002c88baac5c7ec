"""Tiny plans with all kinds of parts, for walks over all courses up to a length."""

from holdingsshut.plans import Deed, Plan
from tests.helpers import random_form, random_formula


def marks_formula(chance, marks, often):
    """A formula over the marks, or None."""
    if not marks or chance.random() > often:
        return None
    return random_formula(chance, marks, 1)


def some_of(chance, items, often=0.5):
    return [item for item in items if chance.random() < often]


def need(chance, p, names):
    """A form that is not zero."""
    while True:
        form = random_form(chance, p, names, 2)
        if form:
            return form


def letters(chance, p, names, lock, most):
    """Letters over the names, some of them with a lock among their needs."""
    found = []
    for _ in range(chance.randint(0, most)):
        needs = [need(chance, p, names) for _ in range(chance.choice([1, 1, 2]))]
        if lock is not None and chance.random() < 0.6:
            needs.insert(chance.randint(0, len(needs)), ((lock, 1),))
            if chance.random() < 0.4:
                needs = [((lock, 1),)]
        found.append((needs, random_form(chance, p, names, 2), chance.random() < 0.8))
    return found


def tiny_deed(chance, p, name, marks, slots, plain, lock):
    renews = chance.sample(slots, min(len(slots), chance.choice([0, 0, 0, 1, 1, 2, 9])))
    names = plain + [x + "~" for x in renews if x in plain]
    sets = some_of(chance, marks)
    return Deed(
        name, when=marks_formula(chance, marks, 0.4), unless=marks_formula(chance, marks, 0.5), sets=sets,
        clears=some_of(chance, [mark for mark in marks if mark not in sets]), renews=renews,
        letters=letters(chance, p, names, lock, 2),
        tells=[need(chance, p, names) for _ in range(chance.choice([0, 0, 0, 1, 1, 2]))],
    )


def tiny_plan(chance, locks=0):
    """A plan of one to three slots, up to two marks, up to three deeds, and so many locks more."""
    p = chance.choice([2, 2, 3])
    plain = chance.sample(["k", "k.r", "s"], chance.choice([1, 2, 3, 3, 3]))
    lock_slots = ["w", "v"][:locks]
    slots = plain + lock_slots
    chance.shuffle(slots)
    lock = chance.choice(lock_slots) if lock_slots else None
    marks = ["n", "m"][:chance.choice([0, 1, 2, 2])]
    devices = [
        (name, some_of(chance, [need(chance, p, plain), need(chance, p, plain)]), chance.choice(marks + [None]))
        for name in ["e", "d"][:chance.randint(0, 2)]
    ]
    deeds = [
        tiny_deed(chance, p, name, marks, slots, plain, chance.choice(lock_slots) if lock_slots else None)
        for name in ["t.b", "t.a", "go"][:chance.choice([0, 1, 2, 3, 3, 3])]
    ]
    for deed in deeds:
        deed.hands = tuple(some_of(chance, [name for name, _, _ in devices]))
    return Plan(
        p, marks=marks, devices=devices, deeds=deeds, start=Deed(
            "start", sets=some_of(chance, marks, 0.3), renews=slots, letters=letters(chance, p, plain, lock, 3),
            tells=[need(chance, p, plain) for _ in range(chance.choice([0] * 9 + [1]))],
        ),
        locks=[(slot, chance.randrange(p), chance.randint(1, 3),
            chance.sample(range(p), chance.randint(1, p))) for slot in lock_slots],
        standing=[(needs, gives) for needs, gives, _ in letters(chance, p, plain, None, 1)],
        roads=[(slot, marks_formula(chance, marks, 0.5)) for slot in chance.sample(plain, chance.randint(0, len(plain)))],
        promises=[
            (chance.choice(plain), random_formula(chance, [name for name, _, _ in devices], 1),
                marks_formula(chance, marks, 0.5))
            for _ in range(chance.randint(0, 2)) if devices
        ],
    )
