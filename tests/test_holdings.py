"""Points [45], [46], [47], [34], [35], [36] and [4], and the interface of holdings.py."""

import random
import unittest

from holdingsshut.errors import Barred, NoDeed, UnknownName
from holdingsshut.holdings import (
    first_hold, first_holding, healed, hold_behind, holding_covers, step_hold, step_holding, stolen, survivors,
)
from holdingsshut.holds import Hold, alike, covers
from holdingsshut.houses import lock_house, mend_house, refresh_house
from holdingsshut.plans import Deed, Plan
from holdingsshut.rules import close_on
from holdingsshut.sources import known, present_part, sources
from holdingsshut.spaces import Space
from tests.courses import Course, is_allowed
from tests.helpers import all_forms, check_raises, forms_within
from tests.test_courses import NO_DEEDS
from tests.test_holds import check_hold, other_writing, subspaces
from tests.test_sources import NO_LOCKS
from tests.tinyplans import tiny_plan

TWO = (2, ("a", "b"))


def e(name):
    return ((name, 1),)


def old_box():
    """A plan in which a form is known about old numbers alone, and a later tell opens an old letter."""
    return Plan(
        5, start=Deed("start", renews=["k", "r", "s"], letters=[((e("k"),), (("r", 1), ("s", 1)), True)]),
        roads=[("s", None)],
        deeds=[
            Deed("new.r", renews=["r"], letters=[((e("k"),), (("r", 1), ("r~", 4)), True)]),
            Deed("tell.r", tells=[e("r")]), Deed("tell.k", tells=[e("k")]), Deed("drop", renews=["r"]),
        ],
    )


def walks(chance, plan, guessed, most):
    """A random course of allowed deeds, read plainly."""
    walk = Course(plan, guessed)
    for _ in range(chance.randint(0, most)):
        deeds = [deed for deed in plan.deeds if is_allowed(deed, walk.marks)]
        if deeds:
            walk = walk.after(chance.choice(deeds))
    return walk


class Holds(unittest.TestCase):
    def test_example(self):
        plan = mend_house(2, ["a", "b"], TWO, masks_new=False)
        self.assertEqual(hold_behind(plan, ("take.a", "mend")).basis, (e("s.1"),))
        self.assertEqual((healed(plan, ("take.a", "mend")), healed(plan, ())), (False, True))

    def test_the_first_hold(self):
        for plan in [mend_house(5, ["a", "b"], TWO), old_box(), Plan(5, start=Deed("start"))]:
            wanted = Hold(plan.p, [], [(needs, gives) for needs, gives, _ in plan.start.letters])
            hold = first_hold(plan)
            self.assertIsInstance(hold, Hold)
            self.assertTrue(alike(hold, wanted))
            self.assertEqual((hold.basis, hold.boxes), (hold_behind(plan, []).basis, hold_behind(plan, ()).boxes))

    def test_the_first_hold_with_guesses(self):
        plan = lock_house(5, ["a", "b"], TWO, [("a", 0, 1, (1,)), ("b", 0, 1, (2,))])
        self.assertEqual(first_hold(plan).basis, ())
        self.assertIn(e("k.a"), first_hold(plan, guessed=["w.a", "w.a"]))
        self.assertNotIn(e("s"), first_hold(plan, guessed=["w.a"]))
        self.assertIn(e("s"), first_hold(plan, guessed=("w.b", "w.a")))

    def test_a_form_that_is_known_about_old_numbers_alone_and_opens_later(self):
        plan = old_box()
        hold = hold_behind(plan, ("tell.r", "new.r"))
        self.assertEqual(hold.basis, ())
        # With k the old letter opens r + s, and what was told of the old r brings s; the new r comes, too.
        self.assertTrue(hold.entails([e("k")], e("s")) and hold.entails([e("k")], e("r")))
        self.assertFalse(hold.entails([e("r")], e("s")))
        self.assertTrue(hold_behind(plan, ("tell.r", "drop")).entails([e("k")], e("s")))
        self.assertFalse(hold_behind(plan, ("drop",)).entails([e("k"), e("r")], e("s")))
        self.assertEqual(hold_behind(plan, ("tell.r", "new.r", "tell.k")).basis, (e("k"), e("r"), e("s")))

    def test_its_space_is_the_present_part_and_its_reach_all_that_can_be_known_later(self):
        chance = random.Random(221)
        many = {}
        for _ in range(220):
            plan = tiny_plan(chance, chance.choice([0, 0, 0, 1]))
            guessed = [lock[0] for lock in plan.locks]
            walk = walks(chance, plan, guessed, 4)
            hold = hold_behind(plan, walk.names, guessed=guessed)
            check_hold(self, hold)
            self.assertLessEqual(set(hold.hold_names), set(plan.slots))
            self.assertEqual(hold.basis, present_part(plan, walk.names, guessed=guessed))
            self.assertEqual(Space.over(plan.p, hold.basis).rank, len(hold.basis))
            table = {x: f"{x}#{date}" for x, date in walk.dates.items()}
            present = {table[x]: x for x in table}
            for told in subspaces(plan.p, tuple(sorted(plan.slots))):
                dated = [tuple(sorted((table[x], n) for x, n in f)) for f in told]
                space = close_on(plan.p, dated, walk.rules).within(list(present))
                wanted = Space.over(plan.p, [tuple(sorted((present[x], n) for x, n in f)) for f in space])
                self.assertEqual(list(hold.reach(told)), list(wanted))
            many[len(hold.boxes)] = many.get(len(hold.boxes), 0) + 1
        self.assertGreater(len(many), 3)

    def test_steps_of_holds(self):
        chance = random.Random(222)
        for _ in range(150):
            plan = tiny_plan(chance, chance.choice([0, 0, 1]))
            guessed = [lock[0] for lock in plan.locks if chance.random() < 0.5]
            hold = first_hold(plan, guessed=guessed)
            walk = walks(chance, plan, guessed, 4)
            for name in walk.names:
                before = (hold.basis, hold.boxes)
                after = step_hold(plan, hold, name, guessed=guessed)
                self.assertEqual((hold.basis, hold.boxes), before)
                # However its boxes are written, a hold steps to the same.
                other = step_hold(plan, other_writing(chance, hold), name, guessed=guessed)
                self.assertTrue(alike(after, other))
                hold = after
            self.assertTrue(alike(hold, hold_behind(plan, list(walk.names), guessed=guessed)))

    def test_a_deed_that_is_not_allowed(self):
        plan = mend_house(5, ["a", "b"], TWO, guard="a")
        hold = hold_behind(plan, ["take.a"])
        self.assertEqual(step_hold(plan, hold, "take.b").basis, (e("k.a"), e("k.b"), e("s"), e("s.1")))

    def test_a_deed_that_renews_nothing_and_one_that_renews_all(self):
        plan = Plan(
            5, start=Deed("start", renews=["k", "s"], letters=[((e("k"),), e("s"), True)], tells=[e("k")]),
            deeds=[Deed("still"), Deed("all", renews=["s", "k"]),
                Deed("again", renews=["s", "k"], letters=[((e("s"),), e("k"), True)])],
        )
        first = first_hold(plan)
        self.assertEqual(first.basis, (e("k"), e("s")))
        self.assertTrue(alike(step_hold(plan, first, "still"), first))
        nothing = step_hold(plan, first, "all")
        self.assertEqual((nothing.basis, nothing.boxes, nothing.hold_names), ((), (), ()))
        again = step_hold(plan, first, "again")
        self.assertTrue(alike(again, Hold(5, [], [((e("s"),), e("k"))])))

    def test_standing_letters_are_posted_again_for_new_numbers_alone(self):
        plan = Plan(
            5, start=Deed("start", renews=["k", "s", "t"]), standing=[((e("k"),), e("s")), ((e("s"),), e("t"))],
            deeds=[Deed("k.new", renews=["k"]), Deed("t.new", renews=["t"], tells=[e("s")])],
        )
        hold = hold_behind(plan, ["k.new"])
        self.assertTrue(alike(hold, Hold(5, [], list(plan.standing))))
        self.assertEqual(hold_behind(plan, ["t.new"]).basis, (e("s"), e("t")))
        # What the old k opened stays open.
        told = Plan(5, start=Deed("start", renews=["k", "s"], tells=[e("k")]), standing=[((e("k"),), e("s"))],
                    deeds=[Deed("k.new", renews=["k"])])
        self.assertEqual(hold_behind(told, ["k.new"]).basis, (e("s"),))

    def test_refusals(self):
        plan = lock_house(5, ["a"], "a", [("a", 0, 1, (1,))])
        hold = first_hold(plan)
        for name in NO_LOCKS:
            told = {"name": name}
            check_raises(self, UnknownName, told, lambda: first_hold(plan, guessed=["w.a", name]))
            check_raises(self, UnknownName, told, lambda: hold_behind(plan, ["x"], guessed=[name, "y"]))
            check_raises(self, UnknownName, told, lambda: healed(plan, ["x"], guessed=[name]))
            check_raises(self, UnknownName, told, lambda: first_holding(plan, guessed=[name]))
            check_raises(self, NoDeed, {"at": 0, "name": "x"}, lambda: step_hold(plan, hold, "x", guessed=[name]))
        plan = mend_house(5, ["a", "b"], TWO)
        for name in NO_DEEDS:
            told = {"at": 0, "name": name}
            check_raises(self, NoDeed, told, lambda: step_hold(plan, hold, name, guessed=["y"]))
            check_raises(self, NoDeed, told, lambda: step_holding(plan, first_holding(plan), name, guessed=["y"]))
            check_raises(self, NoDeed, told, lambda: survivors(plan, [first_holding(plan)], name, guessed=["y"]))
            check_raises(self, NoDeed, told, lambda: survivors(plan, [], name))
            for call in [hold_behind, healed]:
                check_raises(self, NoDeed, {"at": 1, "name": name}, lambda: call(plan, ["mend", name]))
                check_raises(self, Barred, {"at": 1, "name": "take.a"}, lambda: call(plan, ["take.a", "take.a", name]))
        for name in NO_LOCKS:
            check_raises(self, UnknownName, {"name": name}, lambda: step_hold(plan, hold, "mend", guessed=[name]))
            check_raises(self, UnknownName, {"name": name},
                lambda: step_holding(plan, first_holding(plan), "mend", guessed=[name]))
            check_raises(self, UnknownName, {"name": name}, lambda: survivors(plan, [], "mend", guessed=[name]))


class Holdings(unittest.TestCase):
    def test_first_and_stepped_holdings(self):
        chance = random.Random(223)
        for _ in range(120):
            plan = tiny_plan(chance, chance.choice([0, 0, 1]))
            guessed = [lock[0] for lock in plan.locks if chance.random() < 0.5]
            walk = walks(chance, plan, guessed, 3)
            holding = first_holding(plan, guessed=guessed)
            for name in walk.names:
                holding = step_holding(plan, holding, name, guessed=guessed)
            hold = hold_behind(plan, walk.names, guessed=guessed)
            self.assertEqual(holding[:2], (tuple(sorted(walk.marks)), tuple(sorted(walk.spent))))
            self.assertTrue(alike(Hold(plan.p, holding[2], holding[3]), hold))
            self.assertEqual(holding[2], hold.basis)
            self.assertTrue(all(isinstance(part, tuple) for part in holding))
            self.assertEqual(stolen(plan, holding), (walk.stolen() + [None])[0])

    def test_basis_and_boxes_are_those_of_the_hold(self):
        plan = old_box()
        hold = first_hold(plan)
        self.assertEqual(first_holding(plan), ((), (), hold.basis, hold.boxes))
        after = step_hold(plan, hold, "new.r")
        self.assertEqual(step_holding(plan, first_holding(plan), "new.r"), ((), (), after.basis, after.boxes))

    def test_stepping_a_holding_that_is_written_otherwise(self):
        plan = Plan(
            5, marks=["m", "n"], start=Deed("start", renews=["k", "s", "t"]), roads=[("t", "m"), ("s", "n")],
            deeds=[Deed("go", when="m", unless="n", sets=["n"], clears=["m"], renews=["t"])],
        )
        forms = [(("k", 2), ("s", 2)), (("k", 1), ("s", 1))]
        boxes = [((e("k"), e("k")), e("t")), ((e("k"),), e("t")), ((e("s"),), ())]
        holding = (["n", "m"], ["t", "s"], forms, boxes)
        after = step_holding(plan, holding, "go")
        self.assertEqual(after[:3], (("n",), ("s",), ((("k", 1), ("s", 1)),)))
        self.assertEqual(after[3], ())
        self.assertEqual(holding, (["n", "m"], ["t", "s"], forms, boxes))
        # Whether the deed is allowed is not asked.
        self.assertEqual(step_holding(plan, ((), (), (), ()), "go"), (("n",), ("s",), (), ()))

    def test_covering(self):
        plan = Plan(5, marks=["m", "n"], start=Deed("start", renews=["k", "s", "t"]), roads=[("t", "m"), ("s", "n")])
        box = ((e("k"),), e("s"))
        small = (("m", "n"), ("s",), (), (box,))
        for big, wanted in [
            (small, True), ((["n", "m"], ["s"], [], [box]), True), ((("n",), ("s",), (), (box,)), False),
            ((("m", "n"), (), (), (box,)), True), ((("m", "n"), ("t",), (), (box,)), False),
            ((("m", "n"), ("t", "s"), (), (box,)), False), ((("m", "n"), ("s",), (), ()), False),
            ((("m", "n"), ("s",), (e("s"),), ()), True), ((("m", "n"), (), (e("t"),), (box,)), True),
            ((("m", "n"), ("s",), (), (((e("k"), e("t")), e("s")),)), False),
            ((("m", "n"), ("s",), (), (((e("k"),), (("k", 1), ("s", 3))),)), True),
        ]:
            self.assertIs(holding_covers(plan, big, small), wanted, big)
        self.assertTrue(holding_covers(plan, small, (["n", "m", "n"], ["s", "t"], (), ())))

    def test_covering_is_covering_of_marks_spent_and_holds(self):
        chance = random.Random(224)
        found = {True: 0, False: 0}
        for _ in range(120):
            plan = tiny_plan(chance)
            states = []
            for _ in range(2):
                walk = walks(chance, plan, (), 2)
                hold = other_writing(chance, hold_behind(plan, walk.names))
                marks, spent = sorted(walk.marks, reverse=True), sorted(walk.spent, reverse=True)
                states.append((marks, spent, list(hold.basis), list(hold.boxes)))
            big, small = states
            wanted = big[0] == small[0] and set(big[1]) <= set(small[1]) and covers(
                Hold(plan.p, big[2], big[3]), Hold(plan.p, small[2], small[3]))
            self.assertIs(holding_covers(plan, big, small), wanted)
            found[wanted] += 1
        self.assertGreater(min(found.values()), 15)

    def test_stolen(self):
        plan = Plan(5, marks=["m"], start=Deed("start", renews=["k", "s", "t"]), roads=[("t", "m"), ("s", None), ("k", "m")])
        for spent, basis, boxes, wanted in [
            ((), (), (), None), ([], [e("s")], [], "s"), (("s",), [e("s")], [], None), ((), [e("s"), e("t")], [], "t"),
            (("t",), [e("s"), e("t")], [], "s"), ((), [(("s", 1), ("t", 1))], [], None),
            ((), [e("k")], [((e("k"),), e("s"))], "s"),
            ((), [(("s", 1), ("t", 1)), (("s", 1), ("t", 2))], [], "t"), (["t", "s", "k"], [e("s"), e("t")], [], None),
            ((), [], [((), e("k"))], "k"), ((), [], [((e("k"),), e("s"))], None),
        ]:
            for marks in [(), ["m"]]:
                self.assertEqual(stolen(plan, (marks, spent, basis, boxes)), wanted)

    def test_survivors(self):
        plan = mend_house(5, ["a", "b"], TWO, masks_new=False)
        entries = [
            ((), (), (), ()), ((), (), (e("s"),), ()), (["o.b", "o.a"], (), (e("k.a"),), ()),
            (("o.a",), ["s"], (e("s.1"),), ()), ((), (), (), (((e("k.a"),), e("s")),)),
        ]
        self.assertEqual(survivors(plan, entries, "mend"), [1, 3])
        # A loss that the marks bar leaves no survivor.
        self.assertEqual(survivors(plan, entries, "take.a"), [0, 1, 4])
        self.assertEqual(survivors(plan, tuple(entries), "mend"), [1, 3])
        self.assertEqual(survivors(plan, [], "mend"), [])

    def test_survivors_against_steps(self):
        chance = random.Random(225)
        found = 0
        for _ in range(100):
            plan = tiny_plan(chance)
            entries = []
            for _ in range(3):
                walk = walks(chance, plan, (), 3)
                hold = hold_behind(plan, walk.names)
                entries.append((tuple(sorted(walk.marks)), (), hold.basis, hold.boxes))
            for deed in plan.deeds:
                wanted = [
                    at for at, (marks, _, basis, boxes) in enumerate(entries)
                    if is_allowed(deed, marks) and not covers(first_hold(plan),
                        step_hold(plan, Hold(plan.p, basis, boxes), deed.name))
                ]
                self.assertEqual(survivors(plan, entries, deed.name), wanted)
                found += len(wanted)
        self.assertGreater(found, 40)

    def test_healed(self):
        chance = random.Random(226)
        found = {True: 0, False: 0}
        for _ in range(150):
            plan = tiny_plan(chance)
            walk = walks(chance, plan, (), 4)
            wanted = True
            first = first_hold(plan)
            table = {x: f"{x}#{date}" for x, date in walk.dates.items()}
            for told in subspaces(plan.p, tuple(sorted(plan.slots))):
                dated = [tuple(sorted((table[x], n) for x, n in f)) for f in told]
                space = close_on(plan.p, dated, walk.rules)
                reach = forms_within(plan.p, sorted(plan.slots), first.reach(told))
                for f in all_forms(plan.p, sorted(plan.slots)):
                    if tuple(sorted((table[x], n) for x, n in f)) in space and f not in reach:
                        wanted = False
            self.assertIs(healed(plan, walk.names), wanted)
            found[wanted] += 1
        self.assertGreater(min(found.values()), 30)

    def test_healed_written_out(self):
        plan = refresh_house(5, ["a", "b"], TWO)
        self.assertTrue(healed(plan, ()))
        self.assertFalse(healed(plan, ["take.a"]))
        # The key of a stays with the foe.
        self.assertFalse(healed(plan, ("take.a", "found", "refresh")))
        plan = mend_house(5, ["a", "b"], TWO, guard=(1, ("a", "b")))
        self.assertTrue(healed(plan, ["take.a", "mend"]) and healed(plan, ["mend", "mend"]))

    def test_answers_are_equal_and_arguments_stay(self):
        plan = lock_house(5, ["a", "b"], TWO, [("a", 0, 1, (1,)), ("b", 0, 1, (2,))])
        guessed = ["w.b", "w.a", "w.b"]
        first = first_holding(plan, guessed=guessed)
        self.assertEqual(first, first_holding(plan, guessed=("w.a", "w.b")))
        self.assertEqual(guessed, ["w.b", "w.a", "w.b"])
        entries = [(["o.b"], [], [e("k.a")], [((e("k.b"),), e("s"))])]
        house = mend_house(5, ["a", "b"], TWO)
        survivors(house, entries, "mend")
        stolen(house, entries[0])
        holding_covers(house, entries[0], entries[0])
        self.assertEqual(entries, [(["o.b"], [], [e("k.a")], [((e("k.b"),), e("s"))])])

    def test_what_is_known_is_known_in_the_hold(self):
        plan = mend_house(5, ["a", "b"], TWO, keys_new=False)
        course = ("take.a", "mend", "take.b", "mend")
        space = known(plan, course)
        self.assertEqual(e("s#0") in space, e("s") in hold_behind(plan, course))
        self.assertEqual(len(sources(plan, course)), 8)


if __name__ == "__main__":
    unittest.main()
