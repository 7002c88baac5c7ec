"""Points [2] (A), (C), (E), [48], [49], [47], [44], [32] and [25], and the interface of search.py."""

import itertools
import random
import unittest

from holdingsshut.errors import BadCells, NoDeed, TooMany, UnknownName
from holdingsshut.holdings import (
    first_holding, healed, holding_covers, step_holding, stolen, survivors,
)
from holdingsshut.courses import allowed
from holdingsshut.houses import lease_house, lock_house, mend_house, refresh_house, tree_house
from holdingsshut.models import lease_model, lock_model, lot_model, refresh_model, tree_model
from holdingsshut.papers import check_paper, find_paper, is_lean
from holdingsshut.plans import Deed, Plan
from holdingsshut.search import heals, judge, lock_sets, price
from holdingsshut.sources import sources
from tests.courses import Course, first_theft, is_allowed
from tests.helpers import check_raises, random_formula
from tests.test_courses import NO_DEEDS
from tests.test_guesses import cost_plainly
from tests.test_models import FLAGS
from tests.test_pebbles import BAD_CELLS
from tests.test_sources import NO_LOCKS
from tests.tinyplans import tiny_plan

TWO = (2, ("a", "b"))
NOTHING = ("shut", (((), (), (), ()),))


def e(name):
    return ((name, 1),)


def rules_of(plan, course, guessed=()):
    return [rule for _, _, rule in sources(plan, course, guessed=guessed)]


def kept_plainly(plan, guessed=()):
    """The shut list, kept as point [48] tells by the functions over holdings alone; for plans that are tight."""
    kept = [first_holding(plan, guessed=guessed)]
    at = 0
    while at < len(kept):
        for name in allowed(plan, kept[at][0]):
            met = step_holding(plan, kept[at], name, guessed=guessed)
            if not any(holding_covers(plan, other, met) for other in kept):
                kept.append(met)
        at += 1
    return kept


def alike_holdings(plan, one, two):
    return len(one) == len(two) and all(
        holding_covers(plan, a, b) and holding_covers(plan, b, a) for a, b in zip(one, two)
    )


class Judging(unittest.TestCase):
    def test_examples(self):
        plan = mend_house(2, ["a", "b"], TWO, guard=(1, ("a", "b")), masks_new=False)
        self.assertEqual(judge(plan), (
            "theft", ("take.a", "mend", "take.b"), "s", ((2, ()), (5, ()), (0, (((0, 1),),)), (4, (((1, 1),),))),
            ((2, 1), (3, 1)),
        ))

    def check(self, plan, guessed, most):
        """The answer against a walk over all courses up to a length."""
        answer = judge(plan, guessed=guessed)
        theft = first_theft(plan, most, guessed)
        if answer[0] == "shut":
            self.assertIsNone(theft)
            kept = answer[1]
            self.assertIsInstance(kept, tuple)
            self.assertTrue(alike_holdings(plan, list(kept), kept_plainly(plan, guessed)))
            self.assertFalse([entry for entry in kept if stolen(plan, entry) is not None])
            return answer
        _, course, secret, steps, last = answer
        self.assertEqual(theft, (course, secret) if len(course) <= most else None)
        walk = Course(plan, guessed)
        for name in course:
            walk = walk.after(plan.deed_named(name))
        goal = e(f"{secret}#{walk.dates[secret]}")
        self.assertEqual((steps, last), find_paper(plan.p, rules_of(plan, course, guessed), goal))
        check_paper(plan.p, rules_of(plan, course, guessed), goal, steps, last)
        self.assertTrue(is_lean(steps, last))
        return answer

    def test_against_a_walk_over_all_courses(self):
        chance = random.Random(231)
        found = {}
        for _ in range(1500):
            plan = tiny_plan(chance, chance.choice([0, 0, 1, 2]))
            guessed = [lock[0] for lock in plan.locks if chance.random() < 0.6]
            answer = self.check(plan, guessed, 3)
            key = (answer[0], len(answer[1]))
            found[key] = found.get(key, 0) + 1
        for key, least in [(("theft", 0), 30), (("theft", 1), 50), (("theft", 2), 10), (("shut", 1), 50),
            (("shut", 4), 30), (("shut", 5), 8)]:
            self.assertGreater(found[key], least, key)

    def test_mend_houses_against_the_model(self):
        chance = random.Random(232)
        found = set()
        for _ in range(120):
            devices = chance.sample(list("abc"), chance.randint(1, 3))
            formula = random_formula(chance, devices, 2)
            told = dict(zip(["keys_new", "masks_new", "secret_new"], chance.choice(FLAGS)))
            told["road"] = random_formula(chance, devices, 1) if chance.random() < 0.6 else None
            told["guard"] = random_formula(chance, devices, 1) if chance.random() < 0.6 else None
            answer = judge(mend_house(7, devices, formula, **told))
            course = lot_model(devices, formula, **told)
            self.assertEqual((answer[0], answer[1] if answer[0] == "theft" else None),
                ("shut" if course is None else "theft", course))
            found.add(None if course is None else len(course))
        self.assertGreaterEqual(found, {None, 1, 2, 3})

    def test_refresh_houses_against_the_model(self):
        chance = random.Random(233)
        found = set()
        for _ in range(120):
            devices = chance.sample(list("abc"), chance.randint(1, 3))
            formula = random_formula(chance, devices, 2)
            told = {"road": random_formula(chance, devices, 1) if chance.random() < 0.7 else None,
                    "quiet": chance.random() < 0.5, "strict": chance.random() < 0.5}
            answer = judge(refresh_house(7, devices, formula, **told), limit=400)
            course = refresh_model(devices, formula, **told)
            self.assertEqual((answer[0], answer[1] if answer[0] == "theft" else None),
                ("shut" if course is None else "theft", course))
            found.add(None if course is None else len(course))
        self.assertGreaterEqual(found, {None, 1, 2, 3})

    def test_tree_and_lease_houses_against_the_models(self):
        chance = random.Random(234)
        for tree in [("a", "b"), ("a", ("b", "c")), (("a", "b"), ("c", "d")), ("a", "b", ("c", ("d", "e")))]:
            for kept in [[], [("a", "s")], [("a", "k.a")], [("b", "t"), ("a", "s")], [("b", "k.b"), ("a", "t")]]:
                answer = judge(tree_house(5, tree, kept=kept))
                course = tree_model(tree, kept=kept)
                self.assertEqual(answer[1] if answer[0] == "theft" else None, course)
        for _ in range(40):
            height, way = chance.randint(0, 3), chance.choice(["tree", "chains", "chains"])
            leases = [tuple(sorted(chance.choices(range(2**height), k=2))) for _ in range(chance.randint(0, 3))]
            answer = judge(lease_house(5, height, way, leases))
            self.assertEqual(answer[1:3] if answer[0] == "theft" else None, lease_model(height, way, leases))

    def test_a_secret_that_is_stolen_right_after_the_start(self):
        plan = Plan(5, marks=["m"], start=Deed("start", renews=["s", "t"], tells=[e("s"), e("t")]),
            roads=[("t", "m"), ("s", None)],
                    deeds=[Deed("new", renews=["s", "t"])])
        self.assertEqual(judge(plan), ("theft", (), "t", ((1, ()),), ((0, 1),)))
        spent = Plan(5, marks=["m"], start=Deed("start", renews=["s", "t"], tells=[e("s"), e("t")], sets=["m"]),
            roads=[("t", "m")])
        self.assertEqual(judge(spent), ("shut", ((("m",), ("t",), (e("s"), e("t")), ()),)))

    def test_plans_without_deeds_roads_and_locks(self):
        self.assertEqual(judge(Plan(5, start=Deed("start"))), NOTHING)
        self.assertEqual(judge(Plan(5, start=Deed("start", renews=["s"])), limit=1), NOTHING)
        plan = Plan(5, start=Deed("start", renews=["s"], tells=[e("s")]), deeds=[Deed("go", renews=["s"], tells=[e("s")])])
        self.assertEqual(judge(plan), ("shut", (((), (), (e("s"),), ()),)))

    def test_a_theft_at_the_last_deed_of_several_courses_of_the_same_length(self):
        deeds = [Deed(name, unless=mark, sets=[mark], tells=[form]) for name, mark, form in [
            ("c", "m", e("t")), ("b", "n", (("s", 1), ("t", 1))), ("a", "o", (("s", 1), ("t", 2))),
        ]]
        for order in itertools.permutations(deeds):
            plan = Plan(5, marks=["m", "n", "o"], start=Deed("start", renews=["s", "t"]), roads=[("s", None)], deeds=order)
            self.assertEqual(judge(plan)[:3], ("theft", (order[0].name, order[1].name), "s"))

    def test_a_longer_course_is_not_taken_though_it_is_earlier_in_the_order_of_deeds(self):
        plan = Plan(
            5, marks=["m", "n"], start=Deed("start", renews=["s"]), roads=[("s", None)],
            deeds=[Deed("a", unless="m", sets=["m"]), Deed("b", when="m", unless="n", sets=["n"]),
                   Deed("c", when="n", tells=[e("s")]), Deed("d", when="m", tells=[e("s")])],
        )
        self.assertEqual(judge(plan)[:2], ("theft", ("a", "d")))

    def test_what_is_known_of_an_old_number_is_no_theft_of_the_new_one(self):
        plan = Plan(
            5, marks=["m"], start=Deed("start", renews=["s"]), roads=[("s", "m")],
            deeds=[Deed("open", unless="m", sets=["m"], tells=[e("s")]), Deed("new", when="m", clears=["m"], renews=["s"])],
        )
        self.assertEqual(judge(plan)[0], "shut")
        leak = Plan(
            5, marks=["m"], start=Deed("start", renews=["s"]), roads=[("s", "m")],
            deeds=[Deed("open", unless="m", sets=["m"], tells=[e("s")]),
                   Deed("new", when="m", clears=["m"], renews=["s"], tells=[(("s", 1), ("s~", 1))])],
        )
        self.assertEqual(judge(leak)[:3], ("theft", ("open", "new"), "s"))

    def test_guessed_locks(self):
        plan = lock_house(5, ["a", "b"], TWO, [("a", 0, 1, (1,)), ("b", 0, 1, (2,))])
        for guessed in [[], ["w.a"], ["w.b", "w.b"]]:
            self.assertEqual(judge(plan, guessed=guessed)[0], "shut")
        self.assertEqual(judge(plan, guessed=["w.b", "w.a"]), judge(plan, guessed=("w.a", "w.b", "w.a")))
        self.assertEqual(judge(plan, guessed=["w.b", "w.a"])[:3], ("theft", (), "s"))

    def test_limits(self):
        for plan in [mend_house(5, ["a", "b"], TWO, road=TWO, guard=TWO), refresh_house(5, ["a", "b"], TWO, road=TWO)]:
            answer = judge(plan)
            many = len(answer[1])
            self.assertGreater(many, 4)
            self.assertEqual(judge(plan, limit=many), answer)
            for limit in range(1, many):
                check_raises(self, TooMany, {"limit": limit}, lambda: judge(plan, limit=limit))
        # A theft that is met ends the search though no more could be kept.
        plan = mend_house(5, ["a"], "a")
        self.assertEqual(judge(plan, limit=1)[:2], ("theft", ("take.a",)))
        plan = mend_house(5, ["a", "b"], TWO)
        self.assertEqual(judge(plan, limit=3), judge(plan))
        check_raises(self, TooMany, {"limit": 2}, lambda: judge(plan, limit=2))

    def test_refusals_and_new_answers(self):
        plan = lock_house(5, ["a"], "a", [("a", 0, 1, (1,))])
        for name in NO_LOCKS:
            check_raises(self, UnknownName, {"name": name}, lambda: judge(plan, guessed=["w.a", name, "y"]))
        guessed = ["w.a"]
        self.assertEqual(judge(plan, guessed=guessed), judge(plan, guessed=guessed))
        self.assertEqual(guessed, ["w.a"])


class Healing(unittest.TestCase):
    def test_example(self):
        self.assertEqual(heals(mend_house(2, ["a", "b"], TWO, masks_new=False), "mend"), ("survives", ("take.a", "mend")))

    def first_unhealed(self, plan, deed_name, most, guessed):
        """The first shortest course that ends with the deed and does not heal."""
        level = [Course(plan, guessed)]
        for _ in range(most):
            level = [walk.after(deed) for walk in level for deed in plan.deeds if is_allowed(deed, walk.marks)]
            for walk in level:
                if walk.names[-1] == deed_name and not healed(plan, walk.names, guessed=guessed):
                    return walk.names
        return None

    def test_against_a_walk_over_all_courses(self):
        chance = random.Random(235)
        found = {}
        for _ in range(250):
            plan = tiny_plan(chance, chance.choice([0, 0, 0, 1]))
            guessed = [lock[0] for lock in plan.locks if chance.random() < 0.6]
            for deed in plan.deeds:
                answer = heals(plan, deed.name, guessed=guessed)
                wanted = self.first_unhealed(plan, deed.name, 3, guessed)
                if answer[0] == "survives":
                    self.assertEqual(wanted, answer[1] if len(answer[1]) <= 3 else None)
                else:
                    self.assertIsNone(wanted)
                    kept = answer[1]
                    self.assertTrue(alike_holdings(plan, list(kept), kept_plainly(plan, guessed)))
                    self.assertEqual(survivors(plan, kept, deed.name, guessed=guessed), [])
                key = (answer[0], len(answer[1]))
                found[key] = found.get(key, 0) + 1
        for key, least in [(("survives", 1), 50), (("survives", 2), 30), (("heals", 1), 50), (("heals", 3), 10)]:
            self.assertGreater(found[key], least, key)

    def test_thefts_do_not_end_it(self):
        plan = mend_house(5, ["a"], "a", secret_new=True)
        self.assertEqual(judge(plan)[0], "theft")
        answer = heals(plan, "mend")
        self.assertEqual((answer[0], len(answer[1])), ("heals", 2))

    def test_a_deed_that_heals_only_behind_some_courses(self):
        plan = Plan(
            5, marks=["m"], start=Deed("start", renews=["s", "t"]),
            deeds=[Deed("s", tells=[e("s")]), Deed("t", when="m", tells=[e("t")]), Deed("mark", sets=["m"]),
                   Deed("new", renews=["s"]), Deed("never", when="m", unless="m", tells=[e("s")])],
        )
        self.assertEqual(heals(plan, "new"), ("survives", ("mark", "t", "new")))
        self.assertEqual(heals(plan, "s"), ("survives", ("s",)))
        self.assertEqual(heals(plan, "mark"), ("survives", ("s", "mark")))
        self.assertEqual(heals(plan, "never")[0], "heals")

    def test_a_holding_that_is_covered_may_end_the_search(self):
        # What is met by the deed is covered by the holding before it, and yet the foe is better off.
        plan = Plan(5, start=Deed("start", renews=["s"]), deeds=[Deed("tell", tells=[e("s")]), Deed("still")])
        self.assertEqual(heals(plan, "still"), ("survives", ("tell", "still")))

    def test_the_first_holding_is_met_by_no_deed(self):
        plan = Plan(5, start=Deed("start", renews=["s"], tells=[e("s")]), deeds=[Deed("go", renews=["s"])])
        self.assertEqual(heals(plan, "go"), ("heals", (((), (), (e("s"),), ()),)))
        plan = Plan(5, marks=["m"], start=Deed("start"), deeds=[Deed("go", when="m")])
        self.assertEqual(heals(plan, "go"), ("heals", NOTHING[1]))

    def test_limits(self):
        plan = mend_house(5, ["a", "b"], TWO, guard=(1, ("a", "b")))
        answer = heals(plan, "mend")
        self.assertEqual((answer[0], len(answer[1])), ("heals", 3))
        self.assertEqual(heals(plan, "mend", limit=3), answer)
        for limit in [1, 2]:
            check_raises(self, TooMany, {"limit": limit}, lambda: heals(plan, "mend", limit=limit))
        plan = mend_house(5, ["a", "b"], TWO, masks_new=False)
        self.assertEqual(heals(plan, "take.a", limit=1), ("survives", ("take.a",)))

    def test_refusals(self):
        plan = lock_house(5, ["a"], "a", [("a", 0, 1, (1,))])
        check_raises(self, NoDeed, {"at": 0, "name": "x"}, lambda: heals(plan, "x", guessed=["y"]))
        plan = mend_house(5, ["a"], "a")
        for name in NO_DEEDS:
            check_raises(self, NoDeed, {"at": 0, "name": name}, lambda: heals(plan, name, guessed=["y"]))
        for name in NO_LOCKS:
            check_raises(self, UnknownName, {"name": name}, lambda: heals(plan, "mend", guessed=[name]))


class Prices(unittest.TestCase):
    locks = [("a", 0, 4, (1, 2, 3)), ("b", 0, 4, (2, 3)), ("c", 1, 3, (0, 1, 2, 3, 4))]

    def test_example(self):
        plan = lock_house(5, ["a", "b", "c"], (2, ("a", "b", "c")), self.locks)
        self.assertEqual(price(plan, cells=2)[1:3], (30, ("w.a", "w.b")))

    def test_lock_sets(self):
        plan = lock_house(5, ["a", "b", "c"], "a", self.locks)
        self.assertEqual(lock_sets(plan, cells=2), [
            (), ("w.b",), ("w.a",), ("w.a", "w.b"), ("w.c",), ("w.b", "w.c"), ("w.a", "w.c"), ("w.a", "w.b", "w.c"),
        ])
        same = lock_house(5, list("abc"), "a", [(d, 0, 4, [1, 2]) for d in "cab"])
        self.assertEqual(lock_sets(same, cells=1), [
            (), ("w.a",), ("w.b",), ("w.c",), ("w.a", "w.b"), ("w.a", "w.c"), ("w.b", "w.c"), ("w.a", "w.b", "w.c"),
        ])
        self.assertEqual(lock_sets(Plan(5, start=Deed("start")), cells=1), [()])

    def check(self, plan, cells):
        """The answer against the plain reading of point [49]."""
        answer = price(plan, cells=cells)
        slots = sorted(lock[0] for lock in plan.locks)
        sets = sorted(
            (cost_plainly(plan.locks, lot, cells), len(lot), lot)
            for many in range(len(slots) + 1) for lot in itertools.combinations(slots, many)
        )
        self.assertEqual(lock_sets(plan, cells=cells), [lot for _, _, lot in sets])
        judged = [(cost, lot, judge(plan, guessed=lot)) for cost, _, lot in sets]
        thefts = [told for told in judged if told[2][0] == "theft"]
        if not thefts:
            self.assertEqual(answer, ("none", ((tuple(slots), judged[-1][2][1]),)))
            return answer
        cost, lot, theft = thefts[0]
        cheaper = [told for told in judged if told[0] < cost]
        shuts = tuple(
            (less, told[1]) for _, less, told in cheaper if not any(set(less) < set(other) for _, other, _ in cheaper)
        )
        self.assertEqual(answer, ("price", cost, lot, theft, shuts))
        return answer

    def test_tiny_plans(self):
        chance = random.Random(236)
        found = {}
        for _ in range(250):
            answer = self.check(tiny_plan(chance, chance.choice([0, 1, 2, 2])), chance.randint(1, 3))
            key = (answer[0], len(answer[2]) if answer[0] == "price" else 0)
            found[key] = found.get(key, 0) + 1
        for key in [("none", 0), ("price", 0), ("price", 1)]:
            self.assertGreater(found.get(key, 0), 2, key)

    def test_lock_houses_against_the_model(self):
        chance = random.Random(237)
        for _ in range(60):
            devices = list("abcd")[:chance.randint(1, 4)]
            formula = random_formula(chance, devices, 2)
            locks = [
                (d, chance.randrange(2), chance.choice([1, 2, 3]), tuple(chance.sample(range(7), chance.randint(1, 4))))
                for d in devices if chance.random() < 0.8
            ]
            cells = chance.randint(1, 3)
            answer = self.check(lock_house(7, devices, formula, locks), cells)
            wanted = lock_model(devices, formula, locks, cells=cells)
            self.assertEqual(answer[1:3] if answer[0] == "price" else None, wanted)

    def test_sets_that_cost_the_same(self):
        same = [(d, 0, 4, [1, 2]) for d in "cba"]
        plan = lock_house(5, list("abc"), (2, ("c", "b", "a")), same)
        answer = self.check(plan, 2)
        # Nothing costs strictly less but the empty set.
        self.assertEqual(answer[1:3], (20, ("w.a", "w.b")))
        self.assertEqual([lot for lot, _ in answer[4]], [()])

    def test_a_theft_without_guesses_costs_nothing(self):
        plan = Plan(5, start=Deed("start", renews=["s", "w"], tells=[e("s")]), roads=[("s", None)], locks=[("w", 0, 1, (1,))])
        self.assertEqual(price(plan, cells=1), ("price", 0, (), ("theft", (), "s", ((0, ()),), ((0, 1),)), ()))

    def test_no_set_steals(self):
        plan = lock_house(5, list("abc"), (2, ("a", "b")), self.locks[1:])
        answer = price(plan, cells=1)
        self.assertEqual((answer[0], [lot for lot, _ in answer[1]]), ("none", [("w.b", "w.c")]))
        self.assertEqual(answer[1][0][1], judge(plan, guessed=["w.b", "w.c"])[1])
        self.assertEqual(price(Plan(5, start=Deed("start")), cells=1), ("none", (((), NOTHING[1]),)))

    def test_a_set_none_of_whose_parts_steals(self):
        plan = lock_house(5, list("abc"), (3, ("a", "b", "c")), self.locks)
        answer = self.check(plan, 2)
        self.assertEqual(answer[1:3], (65, ("w.a", "w.b", "w.c")))
        self.assertEqual([lot for lot, _ in answer[4]], [("w.a", "w.b"), ("w.b", "w.c")])

    def test_limits(self):
        locks = [("a", 0, 1, (1,))]
        house = mend_house(5, ["a", "b"], TWO, guard=(1, ("a", "b")))
        plan = Plan(
            5, marks=house.marks, devices=house.devices, roads=house.roads, deeds=house.deeds, locks=[("w", 0, 1, (1, 2))],
            start=Deed("start", renews=house.slots + ("w",), letters=house.start.letters),
        )
        answer = price(plan, cells=1, limit=3)
        self.assertEqual((answer[0], len(answer[1][0][1])), ("none", 3))
        check_raises(self, TooMany, {"limit": 2}, lambda: price(plan, cells=1, limit=2))
        plan = lock_house(5, ["a"], "a", locks)
        self.assertEqual(price(plan, cells=1, limit=1)[:3], ("price", 2, ("w.a",)))

    def test_refusals(self):
        plan = lock_house(5, ["a"], "a", [("a", 0, 1, (1,))])
        for cells in BAD_CELLS:
            check_raises(self, BadCells, {"cells": cells}, lambda: price(plan, cells=cells))
            check_raises(self, BadCells, {"cells": cells}, lambda: lock_sets(plan, cells=cells))
            check_raises(self, BadCells, {"cells": cells}, lambda: lock_sets(Plan(5, start=Deed("start")), cells=cells))

    def test_answers_are_new(self):
        plan = lock_house(5, ["a", "b", "c"], "a", self.locks)
        lock_sets(plan, cells=2).clear()
        self.assertEqual(len(lock_sets(plan, cells=2)), 8)
        self.assertEqual(price(plan, cells=2), price(plan, cells=2))


if __name__ == "__main__":
    unittest.main()
