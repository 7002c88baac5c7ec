"""Points [41], [14], [25], [27] and [28] and the interface of models.py."""

import itertools
import random
import unittest

from holdingsshut.errors import BadCells, BadGate, BadLease, BadTree, Stranger, TwiceNamed, UnknownName
from holdingsshut.houses import lease_house, lock_house, mend_house, refresh_house, tree_house
from holdingsshut.models import lease_model, lock_model, lot_model, refresh_model, tree_model
from holdingsshut.trees import above, leaves
from tests.courses import Course, first_theft
from tests.helpers import check_raises, fits_plainly, random_formula
from tests.test_guesses import cost_plainly
from tests.test_kits import BAD_FORMULAS
from tests.test_pebbles import BAD_CELLS
from tests.test_trees import random_trees

TWO = (2, ("a", "b"))
FLAGS = [flags for flags in itertools.product([True, False], repeat=3) if flags[1] or not (flags[0] and flags[2])]


def lot_run(course, formula, road, guard, keys_new, masks_new, secret_new):
    """(known, spent) behind a course of the mend house, or None if a deed is not allowed; read off point [41]."""
    out, had, known, spent = set(), set(), False, False
    for deed in course:
        if deed == "mend":
            out = set()
            had = set() if keys_new and masks_new else had
            known, spent = (known and not secret_new, spent and not secret_new)
            known = known or fits_plainly(formula, had)
        else:
            d = deed[5:]
            if d in out or (guard is not None and fits_plainly(guard, out)):
                return None
            out, had = out | {d}, had | {d}
            known = known or fits_plainly(formula, had)
            spent = spent or (road is not None and fits_plainly(road, out))
    return known, spent


def refresh_run(course, formula, road, quiet, strict):
    """The same for the refresh house."""
    out, had, known, spent, due = set(), set(), False, False, False
    for deed in course:
        if deed == "found":
            if not out:
                return None
            out, due = set(), True
        elif deed == "refresh":
            if out:
                return None
            due = False
            had = set() if quiet else had
        else:
            d = deed[5:]
            if d in out or (strict and due):
                return None
            out, had = out | {d}, had | {d}
            known = known or fits_plainly(formula, had)
            spent = spent or (road is not None and fits_plainly(road, out))
    return known, spent


def shortest(deeds, run, most):
    """The first of the shortest courses that end known and not spent, of all courses up to a length."""
    for length in range(most + 1):
        for course in itertools.product(deeds, repeat=length):
            if run(course) == (True, False):
                return course
    return None


class LotModel(unittest.TestCase):
    def test_examples(self):
        self.assertIsNone(lot_model(["a", "b"], TWO, guard=(1, ("a", "b"))))
        self.assertEqual(lot_model(["a", "b"], TWO, guard=(1, ("a", "b")), masks_new=False), ("take.a", "mend", "take.b"))

    def test_against_the_plain_reading(self):
        chance = random.Random(111)
        found = set()
        for _ in range(250):
            devices = chance.sample(list("abc"), chance.randint(1, 3))
            formula = random_formula(chance, devices, 2)
            road = random_formula(chance, devices, 1) if chance.random() < 0.6 else None
            guard = random_formula(chance, devices, 1) if chance.random() < 0.6 else None
            keys_new, masks_new, secret_new = chance.choice(FLAGS)
            deeds = ["take." + d for d in devices] + ["mend"]
            most = 5 if len(devices) == 3 else 6
            wanted = shortest(
                deeds, lambda course: lot_run(course, formula, road, guard, keys_new, masks_new, secret_new), most)
            course = lot_model(devices, formula, road=road, guard=guard, keys_new=keys_new, masks_new=masks_new,
                               secret_new=secret_new)
            if wanted is None:
                self.assertTrue(course is None or len(course) > most)
            else:
                self.assertEqual(course, wanted)
            found.add(None if course is None else len(course))
        self.assertGreaterEqual(found, {None, 1, 2, 3, 4})

    def test_against_the_house(self):
        chance = random.Random(112)
        for _ in range(60):
            devices = chance.sample(list("abc"), chance.randint(1, 2))
            formula = random_formula(chance, devices, 1)
            road = random_formula(chance, devices, 1) if chance.random() < 0.5 else None
            guard = random_formula(chance, devices, 1) if chance.random() < 0.5 else None
            flags = dict(zip(["keys_new", "masks_new", "secret_new"], chance.choice(FLAGS)))
            course = lot_model(devices, formula, road=road, guard=guard, **flags)
            wanted = first_theft(mend_house(7, devices, formula, road=road, guard=guard, **flags), 4)
            self.assertEqual(course if course is None or len(course) <= 4 else None, wanted and wanted[0])

    def test_thefts_written_out(self):
        self.assertEqual(lot_model(["a"], "a"), ("take.a",))
        self.assertIsNone(lot_model(["a"], "a", road="a"))
        self.assertEqual(lot_model(["b", "a"], (1, ("a", "b"))), ("take.b",))
        self.assertEqual(lot_model(["a", "b"], TWO), ("take.a", "take.b"))
        # A road that is told spends the secret, until the secret is renewed while it is known again.
        self.assertIsNone(lot_model(["a", "b"], TWO, road=TWO))
        self.assertEqual(lot_model(["a", "b"], TWO, road=TWO, masks_new=False), ("take.a", "mend", "take.b"))
        self.assertEqual(lot_model(["a"], "a", road="a", keys_new=False, secret_new=True), ("take.a", "mend"))
        self.assertIsNone(lot_model(["a"], "a", road="a", secret_new=True))

    def test_courses_are_new_each_time_and_devices_stay(self):
        devices = ["b", "a"]
        self.assertEqual(lot_model(devices, TWO), lot_model(tuple(devices), TWO))
        self.assertIsInstance(lot_model(devices, TWO), tuple)
        self.assertEqual(devices, ["b", "a"])

    def test_six_devices(self):
        devices = list("abcdef")
        formula = (4, tuple(devices))
        self.assertIsNone(lot_model(devices, formula, guard=(3, tuple(devices))))
        course = lot_model(devices, formula, guard=(3, tuple(devices)), masks_new=False)
        self.assertEqual(course, ("take.a", "take.b", "take.c", "mend", "take.d"))
        self.assertIsNone(lot_model(devices, formula, road=(1, tuple(devices)), masks_new=False))

    def test_bad_formulas(self):
        for formula, part in BAD_FORMULAS:
            check_raises(self, BadGate, {"part": part}, lambda: lot_model(["a"], formula, road="R", guard="G"))
            check_raises(self, BadGate, {"part": part}, lambda: lot_model(["a"], "a", road=formula, guard="G"))
            check_raises(self, BadGate, {"part": part}, lambda: lot_model(["a"], "a", guard=formula))
        check_raises(self, BadGate, {"part": None}, lambda: lot_model(["a"], None))


class RefreshModel(unittest.TestCase):
    def test_against_the_plain_reading(self):
        chance = random.Random(113)
        found = set()
        for _ in range(500):
            devices = chance.sample(list("abc"), chance.randint(1, 3))
            formula = random_formula(chance, devices, 2)
            road = random_formula(chance, devices, 1) if chance.random() < 0.6 else None
            quiet, strict = chance.random() < 0.5, chance.random() < 0.5
            deeds = ["take." + d for d in devices] + ["found", "refresh"]
            most = 5 if len(devices) > 1 else 6
            wanted = shortest(deeds, lambda course: refresh_run(course, formula, road, quiet, strict), most)
            course = refresh_model(devices, formula, road=road, quiet=quiet, strict=strict)
            if wanted is None:
                self.assertTrue(course is None or len(course) > most)
            else:
                self.assertEqual(course, wanted)
            found.add(None if course is None else len(course))
        self.assertGreaterEqual(found, {None, 1, 2, 3, 4})

    def test_against_the_house(self):
        chance = random.Random(114)
        for _ in range(60):
            devices = chance.sample(list("abc"), chance.randint(1, 2))
            formula = random_formula(chance, devices, 1)
            told = {"quiet": chance.random() < 0.5, "strict": chance.random() < 0.5,
                    "road": random_formula(chance, devices, 1) if chance.random() < 0.7 else None}
            course = refresh_model(devices, formula, **told)
            wanted = first_theft(refresh_house(7, devices, formula, **told), 4)
            self.assertEqual(course if course is None or len(course) <= 4 else None, wanted and wanted[0])

    def test_thefts_written_out(self):
        self.assertEqual(refresh_model(["a", "b"], TWO), ("take.a", "take.b"))
        self.assertIsNone(refresh_model(["a", "b"], TWO, road=TWO))
        self.assertEqual(refresh_model(["a", "b"], TWO, road=TWO, quiet=False), ("take.a", "found", "refresh", "take.b"))
        self.assertEqual(refresh_model(["a", "b"], TWO, road=TWO, strict=False), ("take.a", "found", "take.b"))

    def test_bad_formulas(self):
        for formula, part in BAD_FORMULAS:
            check_raises(self, BadGate, {"part": part}, lambda: refresh_model(["a"], formula, road="R"))
            check_raises(self, BadGate, {"part": part}, lambda: refresh_model(["a"], "a", road=formula))
        check_raises(self, BadGate, {"part": None}, lambda: refresh_model(["a"], None))


class TreeModel(unittest.TestCase):
    def test_written_out(self):
        tree = ("a", ("b", "c"))
        self.assertIsNone(tree_model(tree))
        self.assertIsNone(tree_model(tree, kept=[("a", "s"), ("b", "s"), ("c", "s")]))
        self.assertEqual(tree_model(tree, kept=[("c", "t"), ("b", "s"), ("a", "k.a")]), ("take.a", "mend.a"))
        self.assertEqual(tree_model(tree, kept=[("c", "t.1"), ("b", "t"), ("a", "s")]), ("take.b", "mend.b"))
        self.assertEqual(tree_model(tree, kept=(("c", "t.1"),)), ("take.c", "mend.c"))

    def test_random_trees(self):
        chance = random.Random(115)
        for tree in random_trees(116, 80):
            devices = leaves(tree)
            kept = [(d, chance.choice(["k." + d, "s", "s", "s"] + above(tree, d))) for d in devices if chance.random() < 0.3]
            chance.shuffle(kept)
            bad = [d for d in devices if any(d == x and slot != "s" for x, slot in kept)]
            self.assertEqual(tree_model(tree, kept=kept), ("take." + bad[0], "mend." + bad[0]) if bad else None)

    def test_against_the_house(self):
        chance = random.Random(117)
        for tree in [("a", "b"), ("a", ("b", "c")), (("a", "b"), ("c", "d"))]:
            for _ in range(12):
                kept = [(d, chance.choice(["k." + d, "s", "s"] + above(tree, d))) for d in leaves(tree) if chance.random() < 0.4]
                wanted = first_theft(tree_house(5, tree, kept=kept), 3)
                self.assertEqual(tree_model(tree, kept=kept), wanted and wanted[0])

    def test_refusals(self):
        for tree, part in [("a", "a"), (("a",), ("a",)), (("a", "a"), "a"), (["a", "b"], ["a", "b"])]:
            check_raises(self, BadTree, {"part": part}, lambda: tree_model(tree, kept=[("d", "x")]))
        for kept, error, name in [
            ([("d", "x")], Stranger, "d"), ([("a", "t.1")], UnknownName, "t.1"), ([("a", "t"), ("a", "x")], TwiceNamed, "a"),
            ([("a", "t"), ("b", "k.a"), ("d", "t")], UnknownName, "k.a"),
        ]:
            check_raises(self, error, {"name": name}, lambda: tree_model(("a", ("b", "c")), kept=kept))


class LeaseModel(unittest.TestCase):
    def test_written_out(self):
        self.assertEqual(lease_model(2, "chains", [(0, 0), (2, 2)]), (("take.v",), "m.1"))
        self.assertEqual(lease_model(4, "chains", [(9, 9), (2, 3), (15, 15)]), (("take.v",), "m.4"))
        self.assertIsNone(lease_model(2, "tree", [(0, 0), (2, 2)]))
        for way in ["tree", "chains"]:
            self.assertIsNone(lease_model(2, way, []))
            self.assertIsNone(lease_model(2, way, [(0, 1), (1, 3)]))
            self.assertIsNone(lease_model(2, way, [(2, 3), (0, 1)]))
            self.assertIsNone(lease_model(0, way, [(0, 0)]))

    def test_against_the_house(self):
        chance = random.Random(118)
        for _ in range(60):
            height, way = chance.randint(0, 3), chance.choice(["tree", "chains", "chains"])
            leases = [tuple(sorted(chance.choices(range(2**height), k=2))) for _ in range(chance.randint(0, 3))]
            self.assertEqual(lease_model(height, way, leases), first_theft(lease_house(5, height, way, leases), 1))

    def test_bad_leases(self):
        for way in ["tree", "chains"]:
            for leases, told in [([(0, 1), (2, 1), (4, 4)], (2, 1)), ([(-1, 0)], (-1, 0)), ([(0, 4), (1, 0)], (0, 4))]:
                check_raises(self, BadLease, {"first": told[0], "last": told[1]}, lambda: lease_model(2, way, leases))


class LockModel(unittest.TestCase):
    locks = [("a", 0, 4, (1, 2, 3)), ("b", 0, 4, (2, 3)), ("c", 1, 3, (0, 1, 2, 3, 4))]

    def plainly(self, formula, locks, cells):
        named = [("w." + d, salt, length, candidates) for d, salt, length, candidates in locks]
        sets = [
            (cost_plainly(named, chosen, cells), len(chosen), tuple(sorted(chosen)))
            for many in range(len(named) + 1) for chosen in itertools.combinations([lock[0] for lock in named], many)
        ]
        for cost, _, lot in sorted(sets):
            if fits_plainly(formula, [slot[2:] for slot in lot]):
                return cost, lot
        return None

    def test_written_out(self):
        three = ["a", "b", "c"]
        self.assertEqual(lock_model(three, (2, ("a", "b", "c")), self.locks, cells=2), (30, ("w.a", "w.b")))
        self.assertEqual(lock_model(three, (3, ("a", "b", "c")), self.locks, cells=2), (65, ("w.a", "w.b", "w.c")))
        self.assertEqual(lock_model(three, "b", self.locks, cells=2), (20, ("w.b",)))
        self.assertIsNone(lock_model(three + ["d"], (2, ("a", "d")), self.locks, cells=2))
        self.assertIsNone(lock_model(["a"], "a", [], cells=1))

    def test_equal_costs_go_by_count_and_then_by_slots(self):
        same = [(d, 0, 4, [1, 2]) for d in "dcba"]
        self.assertEqual(lock_model(list("abcd"), (1, ("d", "b", (2, ("a", "c")))), same, cells=2), (20, ("w.b",)))
        self.assertEqual(lock_model(list("abcd"), (2, ("a", "b", "c", "d")), same, cells=2), (20, ("w.a", "w.b")))
        self.assertEqual(lock_model(list("abcd"), (2, ("d", "b", "c")), same, cells=2), (20, ("w.b", "w.c")))

    def test_against_all_sets(self):
        chance = random.Random(119)
        for _ in range(150):
            devices = list("abcdef")[:chance.randint(1, 6)]
            locks = [
                (d, chance.randrange(2), chance.choice([1, 2, 3]), tuple(chance.sample(range(7), chance.randint(1, 4))))
                for d in chance.sample(devices, chance.randint(0, min(4, len(devices))))
            ]
            formula, cells = random_formula(chance, devices, 2), chance.randint(1, 3)
            self.assertEqual(lock_model(devices, formula, locks, cells=cells), self.plainly(formula, locks, cells))

    def test_against_the_house(self):
        chance = random.Random(120)
        for _ in range(40):
            devices = list("abcd")[:chance.randint(1, 4)]
            locks = [(d, 0, chance.choice([1, 2]), (1, 2)) for d in chance.sample(devices, chance.randint(0, len(devices)))]
            formula = random_formula(chance, devices, 2)
            plan = lock_house(5, devices, formula, locks)
            slots = [lock[0] for lock in plan.locks]
            costs = [
                cost_plainly(plan.locks, chosen, 2) for many in range(len(slots) + 1)
                for chosen in itertools.combinations(slots, many) if Course(plan, chosen).stolen()
            ]
            answer = lock_model(devices, formula, locks, cells=2)
            self.assertEqual(answer[0] if answer else None, min(costs, default=None))
            if answer:
                self.assertTrue(Course(plan, answer[1]).stolen())

    def test_refusals(self):
        for formula, part in BAD_FORMULAS + [(None, None)]:
            check_raises(self, BadGate, {"part": part}, lambda: lock_model(["a"], formula, [], cells=0))
        for cells in BAD_CELLS:
            check_raises(self, BadCells, {"cells": cells}, lambda: lock_model(["a"], "a", [], cells=cells))
            check_raises(self, BadCells, {"cells": cells}, lambda: lock_model(["a", "b", "c"], "b", self.locks, cells=cells))

    def test_arguments_stay(self):
        locks, devices = [("b", 0, 4, [1, 2]), ("a", 0, 4, [1])], ["a", "b"]
        first = lock_model(devices, TWO, locks, cells=2)
        self.assertEqual(lock_model(tuple(devices), TWO, tuple(locks), cells=2), first)
        self.assertEqual((locks, devices), ([("b", 0, 4, [1, 2]), ("a", 0, 4, [1])], ["a", "b"]))


if __name__ == "__main__":
    unittest.main()
