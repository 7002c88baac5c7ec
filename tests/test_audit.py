"""Points [2] (D), [59], [44], [33], [12] and [16], and the interface of audit.py."""

import itertools
import random
import unittest

from holdingsshut.audit import audit, blames, check_proof, exposed, proof, reading_counts, tell_times
from holdingsshut.errors import BadBlind, BadStep, Barred, NoDeed, TooBig, UnknownName
from holdingsshut.houses import lock_house, mend_house, refresh_house
from holdingsshut.machine import Machine
from holdingsshut.papers import blind_paper, find_paper
from holdingsshut.plans import Deed, Plan
from holdingsshut.rules import close
from holdingsshut.sealing import Tables
from holdingsshut.sources import known, sources
from tests.courses import Course, is_allowed
from tests.helpers import check_raises, number_in, random_form, worlds
from tests.test_courses import NO_DEEDS
from tests.test_machine import random_machine
from tests.test_sources import NO_LOCKS
from tests.tinyplans import tiny_plan

TWO = (2, ("a", "b"))


def e(name):
    return ((name, 1),)


def random_course(chance, plan, guessed, most):
    """The walks at each time of a random course."""
    walks = [Course(plan, guessed)]
    for _ in range(chance.randint(0, most)):
        deeds = [deed for deed in plan.deeds if is_allowed(deed, walks[-1].marks)]
        if deeds:
            walks.append(walks[-1].after(chance.choice(deeds)))
    return walks


def teller(many):
    """A plan whose deeds t0, t1, .. tell the masks of s one by one, and `all` tells s."""
    masks = [f"r.{k}" for k in range(many)]
    total = tuple([(mask, 1) for mask in masks] + [("s", 1)])
    return Plan(
        5, start=Deed("start", renews=masks + ["s"], tells=[total]), roads=[("s", None)],
        deeds=[Deed(f"t{k}", tells=[e(mask)]) for k, mask in enumerate(masks)] + [Deed("all", tells=[e("s")]),
            Deed("zero", tells=[()]), Deed("still")],
    )


class Audits(unittest.TestCase):
    def test_example(self):
        plan = mend_house(2, ["a", "b"], TWO, masks_new=False)
        course = ("take.a", "mend", "take.b")
        self.assertEqual([state for _, _, state in audit(plan, course)], ["shut", "shut", "shut", "stolen"])
        self.assertEqual(blames(plan, course, "s"), [(1, 3)])

    def test_the_empty_course(self):
        plan = mend_house(5, ["a"], "a")
        for course in [(), []]:
            self.assertEqual(audit(plan, course), [(0, "s", "shut")])
            self.assertEqual(tell_times(plan, course), [])
            self.assertEqual(exposed(plan, course), [])
        self.assertEqual(audit(Plan(5, start=Deed("start", renews=["s"], tells=[e("s")])), ()), [])

    def test_the_four_states(self):
        plan = Plan(
            5, marks=["m"], start=Deed("start", renews=["t", "s"]), roads=[("t", "m"), ("s", None)],
            deeds=[Deed("m", sets=["m"]), Deed("tell", tells=[e("s"), e("t")]), Deed("shut", clears=["m"]),
                Deed("new", renews=["s", "t"])],
        )
        self.assertEqual(audit(plan, ["m", "shut", "tell", "new", "tell", "m"]), [
            (0, "t", "shut"), (0, "s", "shut"), (1, "t", "free"), (1, "s", "shut"), (2, "t", "free"), (2, "s", "shut"),
            (3, "t", "open"), (3, "s", "stolen"), (4, "t", "shut"), (4, "s", "shut"), (5, "t", "stolen"), (5, "s", "stolen"),
            (6, "t", "open"), (6, "s", "stolen"),
        ])

    def test_against_the_plain_reading(self):
        chance = random.Random(301)
        found = {}
        for _ in range(400):
            plan = tiny_plan(chance, chance.choice([0, 0, 1]))
            guessed = [lock[0] for lock in plan.locks if chance.random() < 0.6]
            walks = random_course(chance, plan, guessed, 6)
            wanted = []
            for time, walk in enumerate(walks):
                space = close(plan.p, walk.rules)
                for secret in plan.secrets:
                    is_known = e(f"{secret}#{walk.dates[secret]}") in space
                    state = {(0, 0): "shut", (0, 1): "free", (1, 1): "open", (1, 0): "stolen"}[is_known, secret in walk.spent]
                    wanted.append((time, secret, state))
                    found[state] = found.get(state, 0) + 1
            course = walks[-1].names
            self.assertEqual(audit(plan, course, guessed=guessed), wanted)
            self.assertEqual(audit(plan, list(course), guessed=tuple(guessed) * 2), wanted)
            space = known(plan, course, guessed=guessed)
            self.assertEqual(exposed(plan, course, guessed=guessed),
                [x for x in plan.slots if e(f"{x}#{walks[-1].dates[x]}") in space])
            deeds = [plan.start] + [plan.deed_named(name) for name in course]
            self.assertEqual(tell_times(plan, course), [time for time, deed in enumerate(deeds) if deed.tells])
        self.assertGreater(min(found[state] for state in ["shut", "free", "open", "stolen"]), 50)

    def test_exposed_stands_in_the_order_of_the_slots(self):
        plan = Plan(5, start=Deed("start", renews=["z", "a", "m"], tells=[e("a"), e("z")]), deeds=[Deed("new", renews=["a"])])
        self.assertEqual((exposed(plan, ()), exposed(plan, ["new"])), (["z", "a"], ["z"]))
        plan = lock_house(5, ["a"], "a", [("a", 0, 1, (1,))])
        self.assertEqual((exposed(plan, ()), exposed(plan, (), guessed=["w.a"])), ([], ["k.a", "s", "w.a"]))

    def test_refusals(self):
        plan = lock_house(5, ["a"], "a", [("a", 0, 1, (1,))])
        calls = [lambda course, told: audit(plan, course, guessed=told), lambda course,
            told: blames(plan, course, "x", guessed=told),
                 lambda course, told: proof(plan, course, e("x"), guessed=told), lambda course,
                 told: exposed(plan, course, guessed=told),
                 lambda course, told: check_proof(plan, course, e("x"), ("held", (), ()), guessed=told)]
        for call in calls:
            for name in NO_LOCKS:
                check_raises(self, UnknownName, {"name": name}, lambda: call(["x"], ["w.a", name]))
            for name in NO_DEEDS:
                check_raises(self, NoDeed, {"at": 0, "name": name}, lambda: call([name], ["w.a"]))
        house = mend_house(5, ["a"], "a")
        for call in [audit, tell_times, exposed, lambda p, c: blames(p, c, "x"), lambda p, c: proof(p, c, e("x")),
                     lambda p, c: check_proof(p, c, e("x"), ("held", (), ()))]:
            check_raises(self, Barred, {"at": 1, "name": "take.a"}, lambda: call(house, ["take.a", "take.a"]))
            check_raises(self, NoDeed, {"at": 1, "name": None}, lambda: call(house, ("take.a", None)))


class Blames(unittest.TestCase):
    def test_tell_times(self):
        plan = teller(2)
        self.assertEqual(tell_times(plan, ["still", "t0", "zero", "still", "t1"]), [0, 2, 3, 5])

    def test_each_part_of_a_secret_is_needed(self):
        plan = teller(2)
        self.assertEqual(blames(plan, ["t0", "t1"], "s"), [(0, 1, 2)])
        self.assertEqual(blames(plan, ["t0", "t0", "t1"], "s"), [(0, 1, 3), (0, 2, 3)])
        self.assertEqual(blames(plan, ("t1", "all", "t0", "still", "all"), "s"), [(2,), (5,), (0, 1, 3)])
        self.assertEqual(blames(plan, ["t0", "still"], "s"), [])
        # A deed that tells () has a tell time and is to blame for nothing.
        self.assertEqual(blames(plan, ["zero", "all"], "s"), [(2,)])

    def test_a_secret_that_is_known_without_tells(self):
        plan = Plan(5, start=Deed("start", renews=["k", "s", "t"],
            letters=[(((),), e("s"), True), ((e("k"),), e("t"), True)]), roads=[("s", None), ("t", None)],
                    deeds=[Deed("tell", tells=[e("k"), e("s")])])
        for course in [[], ["tell", "tell"]]:
            self.assertEqual(blames(plan, course, "s"), [()])
        self.assertEqual((blames(plan, [], "t"), blames(plan, ["tell", "tell"], "t")), ([], [(1,), (2,)]))
        locks = lock_house(5, ["a"], "a", [("a", 0, 1, (1,))])
        self.assertEqual((blames(locks, (), "s"), blames(locks, (), "s", guessed=["w.a"])), ([], [()]))

    def test_the_present_number_counts(self):
        plan = Plan(5, start=Deed("start", renews=["s"], tells=[e("s")]), roads=[("s", None)],
                    deeds=[Deed("new", renews=["s"]), Deed("step", renews=["s"], tells=[(("s", 1), ("s~", 2))])])
        self.assertEqual(blames(plan, (), "s"), [(0,)])
        self.assertEqual(blames(plan, ["new"], "s"), [])
        self.assertEqual(blames(plan, ["step", "step"], "s"), [(0, 1, 2)])

    def test_six_and_seven_tell_times(self):
        plan = teller(6)
        course = ["t0", "t1", "t2", "t3", "t4"]
        self.assertEqual(len(tell_times(plan, course)), 6)
        self.assertEqual(blames(plan, course, "s"), [])
        self.assertEqual(blames(plan, course[:4] + ["still", "all"], "s"), [(6,)])
        for more in [["t5"], ["zero"], ["still", "all"], ["t0", "t1", "t2"]]:
            check_raises(self, TooBig, {"what": "tells"}, lambda: blames(plan, course + more, "s"))
            check_raises(self, UnknownName, {"name": "r.0"}, lambda: blames(plan, course + more, "r.0"))
        five = teller(5)
        self.assertEqual(blames(five, course, "s"), [(0, 1, 2, 3, 4, 5)])

    def test_what_is_no_secret(self):
        plan = mend_house(5, ["a"], "a")
        for name in ["k.a", "o.a", "s~", "s#0", "", None, 0, ["s"], ("s",)]:
            check_raises(self, UnknownName, {"name": name}, lambda: blames(plan, ["take.a"], name))

    def test_against_all_sets(self):
        chance = random.Random(302)
        found = {}
        for _ in range(300):
            plan = tiny_plan(chance, chance.choice([0, 0, 1]))
            guessed = [lock[0] for lock in plan.locks if chance.random() < 0.5]
            walks = random_course(chance, plan, guessed, 5)
            course, times = walks[-1].names, tell_times(plan, walks[-1].names)
            told = sources(plan, course, guessed=guessed)
            for secret in plan.secrets:
                goal = e(f"{secret}#{walks[-1].dates[secret]}")

                def comes(chosen):
                    return goal in close(plan.p, [rule for time, kind, rule in told if kind != "tell" or time in chosen])

                wanted = [
                    chosen for many in range(len(times) + 1) for chosen in itertools.combinations(times, many)
                    if comes(chosen) and not any(comes(chosen[:k] + chosen[k + 1:]) for k in range(many))
                ]
                self.assertEqual(blames(plan, course, secret, guessed=guessed), wanted)
                key = min(len(wanted), 2) if wanted != [()] else "always"
                found[key] = found.get(key, 0) + 1
        for key in [0, 1, 2, "always"]:
            self.assertGreater(found.get(key, 0), 5, found)


class Proofs(unittest.TestCase):
    def test_written_out(self):
        plan = mend_house(2, ["a", "b"], TWO, masks_new=False)
        course = ("take.a", "mend", "take.b")
        kind, steps, last = proof(plan, course, e("s"))
        self.assertEqual((kind, steps, last),
            ("held", ((2, ()), (5, ()), (0, (((0, 1),),)), (4, (((1, 1),),))), ((2, 1), (3, 1))))
        self.assertEqual(proof(plan, ("take.a",), e("s")), ("blind", (e("k.a#0"), e("s.1#0")), e("s#0")))
        self.assertEqual(proof(plan, (), ()), ("held", (), ()))

    def test_against_papers(self):
        chance = random.Random(303)
        found = {"held": 0, "blind": 0}
        for _ in range(250):
            plan = tiny_plan(chance, chance.choice([0, 0, 1]))
            guessed = [lock[0] for lock in plan.locks if chance.random() < 0.5]
            walks = random_course(chance, plan, guessed, 4)
            course = walks[-1].names
            rules = [rule for _, _, rule in sources(plan, course, guessed=guessed)]
            f = random_form(chance, plan.p, list(plan.slots), 3)
            goal = tuple(sorted((f"{x}#{walks[-1].dates[x]}", n) for x, n in f))
            told = proof(plan, course, f, guessed=guessed)
            if goal in close(plan.p, rules):
                self.assertEqual(told, ("held",) + find_paper(plan.p, rules, goal))
            else:
                self.assertEqual(told, ("blind",) + blind_paper(plan.p, rules, goal))
            self.assertIsNone(check_proof(plan, course, f, told, guessed=guessed))
            found[told[0]] += 1
        self.assertGreater(min(found.values()), 50)

    def test_names_that_are_no_slots(self):
        plan = lock_house(5, ["a"], "a", [("a", 0, 1, (1,))])
        for f, name in [(e("x"), "x"), (e("s~"), "s~"), ((("k.a", 1), ("s#0", 2), ("z", 1)), "s#0"),
            ((("a", 1), ("s", 1)), "a")]:
            check_raises(self, UnknownName, {"name": name}, lambda: proof(plan, (), f))
            check_raises(self, UnknownName, {"name": name}, lambda: check_proof(plan, (), f, ("blind", None, None)))
        # A lock is a slot, too.
        self.assertEqual(proof(plan, (), e("w.a"))[0], "blind")
        self.assertEqual(proof(plan, (), e("w.a"), guessed=["w.a"])[0], "held")

    def test_proofs_that_are_wrong(self):
        plan = mend_house(5, ["a", "b"], TWO, masks_new=False)
        course = ("take.a", "mend", "take.b")
        _, steps, last = proof(plan, course, e("s"))
        for bad_steps, bad_last, at in [
            (steps, last[:1], len(steps)), (steps, (), len(steps)), (((9, ()),) + steps[1:], last, 0),
            (steps[:1] + steps[2:], last, 2), ((), (), 0),
        ]:
            check_raises(self, BadStep, {"at": at}, lambda: check_proof(plan, course, e("s"), ("held", bad_steps, bad_last)))
        check_raises(self, BadStep, {"at": len(steps)}, lambda: check_proof(plan, course, e("k.a"), ("held", steps, last)))
        kind, basis, shift = proof(plan, course[:2], e("s"))
        self.assertIsNone(check_proof(plan, course[:2], e("s"), (kind, list(basis)[::-1] + [()], shift)))
        for bad_basis, bad_shift, told in [((), shift, "basis"), (basis[1:], shift, "basis"), (basis, (), "shift"),
            (basis, e("k.a#0"), "shift")]:
            check_raises(self, BadBlind, {"kind": told},
                lambda: check_proof(plan, course[:2], e("s"), ("blind", bad_basis, bad_shift)))
        # The other paper does not exist.
        check_raises(self, BadBlind, {"kind": "shift"},
            lambda: check_proof(plan, course, e("s"), ("blind", tuple(known(plan, course)), e("s#0"))))
        check_raises(self, BadStep, {"at": 0}, lambda: check_proof(plan, course[:2], e("s"), ("held", ((5, ()),), ((0, 1),))))


class Readings(unittest.TestCase):
    def counts_plainly(self, machine, f):
        plan = machine.plan
        locks = [lock[0] for lock in plan.locks]
        world = machine.dated_world()
        names = [x for x in world if x.partition("#")[0] not in locks]
        rows = [row for row in known(plan, machine.course_done) if not any(x.partition("#")[0] in locks for x, _ in row)]
        dates = {x: max(int(y.partition("#")[2]) for y in world if y.partition("#")[0] == x) for x in plan.slots}
        goal = tuple(sorted((f"{x}#{dates[x]}", n) for x, n in f))
        counts = [0] * plan.p
        for other in worlds(plan.p, names):
            if all(number_in(plan.p, row, other) == number_in(plan.p, row, world) for row in rows):
                counts[number_in(plan.p, goal, other)] += 1
        return counts

    def test_against_all_worlds(self):
        chance = random.Random(304)
        found = {"one": 0, "all": 0}
        for _ in range(250):
            plan = tiny_plan(chance, chance.choice([0, 0, 1, 2]))
            machine = random_machine(chance, plan, 2)
            if len(machine.dated_world()) > 8:
                continue
            locks = [lock[0] for lock in plan.locks]
            plain = [x for x in plan.slots if x not in locks]
            for f in [random_form(chance, plan.p, plain, 3), e(chance.choice(plain)), ()]:
                counts = reading_counts(machine, f)
                self.assertEqual(counts, self.counts_plainly(machine, f))
                # A form that is known has one value in all of them, any other one each value in equally many.
                is_held = proof(plan, machine.course_done, f)[0] == "held"
                self.assertEqual(len([count for count in counts if count]), 1 if is_held else plan.p)
                self.assertEqual(len({count for count in counts if count}), 1)
                if is_held:
                    self.assertTrue(counts[number_in(plan.p, f, {x: machine.number_of(x) for x in plan.slots})])
                found["one" if is_held else "all"] += 1
        self.assertGreater(min(found.values()), 100)

    def test_written_out(self):
        plan = mend_house(3, ["a", "b"], TWO, masks_new=False)
        machine = Machine(plan, Tables.plain(3), [1, 2, 0, 2, 1, 1])
        self.assertEqual(reading_counts(machine, e("s")), [27, 27, 27])
        machine.do("take.a")
        self.assertEqual((reading_counts(machine, e("s")), reading_counts(machine, e("s.1"))), ([3, 3, 3], [9, 0, 0]))
        machine.do("mend")
        self.assertEqual(reading_counts(machine, e("k.a")), [27, 27, 27])
        machine.do("take.b")
        # Six dated names; k.a, k.b at the date 1, s.1 and s are known.
        self.assertEqual((reading_counts(machine, e("s")), reading_counts(machine, (("k.a", 1), ("s", 1)))),
            ([0, 0, 9], [3, 3, 3]))

    def test_locks_are_left_out(self):
        plan = Plan(3, start=Deed("start", renews=["w", "s", "t"], tells=[e("w"), e("t")],
            letters=[((e("w"),), e("s"), True)]), locks=[("w", 0, 1, (0, 1, 2))])
        machine = Machine(plan, Tables.plain(3), [1, 2, 2])
        self.assertEqual((reading_counts(machine, e("s")), reading_counts(machine, e("t"))), ([0, 0, 1], [0, 0, 1]))
        quiet = lock_house(3, ["a"], "a", [("a", 0, 1, (0, 1, 2))])
        machine = Machine(quiet, Tables.plain(3), [1, 2, 0])
        # Without guesses nothing is known, and the worlds are over k.a and s.
        self.assertEqual((reading_counts(machine, e("s")), reading_counts(machine, ())), ([3, 3, 3], [9, 0, 0]))

    def test_names_that_are_no_slots_or_are_locks(self):
        machine = Machine(lock_house(5, ["a"], "a", [("a", 0, 1, (1,))]), Tables.plain(5), [1, 2, 3])
        for f, name in [
            (e("x"), "x"), (e("w.a"), "w.a"), ((("k.a", 1), ("w.a", 2)), "w.a"),
            ((("s", 1), ("w.a", 1), ("x", 1)), "w.a"), ((("a", 1), ("w.a", 1)), "a"),
            (e("s~"), "s~"), (e("s#0"), "s#0"), ((("s", 1), ("s~", 1), ("w.a", 1)), "s~"),
        ]:
            check_raises(self, UnknownName, {"name": name}, lambda: reading_counts(machine, f))

    def test_more_than_sixty_names(self):
        machine = Machine(refresh_house(2, ["a", "b"], TWO), Tables.plain(2), [1] * 90)
        for _ in range(80):
            machine.do("refresh")
        self.assertEqual(reading_counts(machine, e("s")), [2**83, 2**83])

    def test_answers_are_new(self):
        plan = teller(2)
        for call in [lambda: audit(plan, ["t0"]), lambda: tell_times(plan, ["t0"]),
            lambda: blames(plan, ["all"], "s"), lambda: exposed(plan, ["t0"])]:
            first = call()
            first.append(1)
            self.assertEqual(call(), first[:-1])
        machine = Machine(plan, Tables.plain(5), [1, 2, 3])
        counts = reading_counts(machine, e("s"))
        counts[0] = 99
        self.assertNotEqual(reading_counts(machine, e("s")), counts)


if __name__ == "__main__":
    unittest.main()
