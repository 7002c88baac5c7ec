"""Points [42], [43], [4] and [3], and the interface of courses.py."""

import copy
import random
import unittest

from holdingsshut.courses import allowed, marks_after, replay, spent_after
from holdingsshut.errors import Barred, NoDeed
from holdingsshut.houses import mend_house, refresh_house
from holdingsshut.plans import Deed, Plan
from tests.courses import Course, is_allowed
from tests.helpers import check_raises
from tests.tinyplans import tiny_plan

NO_DEEDS = [None, True, 0, 1.5, "", "x", "start", "Take.a", "take.a ", b"take.a", ["take.a"], ("take.a",), {"take.a": 1}, {1}]


def two_house(**told):
    return mend_house(5, ["b", "a"], (2, ("a", "b")), **told)


def tunnel():
    """A plan with roads that open and close, and deeds that set and clear what is and what is not."""
    return Plan(
        5, marks=["m", "n"], start=Deed("first", renews=["s", "t", "u"], sets=["n"]),
        roads=[("t", "m"), ("s", "n"), ("u", None)],
        deeds=[
            Deed("open", sets=["m"]), Deed("shut", clears=["m", "n"]), Deed("new.t", renews=["t"]),
            Deed("both", renews=["t", "s"], sets=["m"], clears=["n"]), Deed("only.m", when="m", unless="n"),
        ],
    )


class Steps(unittest.TestCase):
    def test_allowed(self):
        plan = two_house(guard=(1, ("a", "b")))
        self.assertEqual(allowed(plan, []), ["take.b", "take.a", "mend"])
        self.assertEqual(allowed(plan, ("o.a",)), ["mend"])
        plan = two_house()
        self.assertEqual(allowed(plan, ["o.b"]), ["take.a", "mend"])
        self.assertEqual(allowed(plan, ["o.b", "o.a"]), ["mend"])
        plan = tunnel()
        self.assertEqual(allowed(plan, ["m"])[-1], "only.m")
        self.assertNotIn("only.m", allowed(plan, []) + allowed(plan, ["n"]) + allowed(plan, ["n", "m"]))
        self.assertEqual(allowed(Plan(5, start=Deed("start")), []), [])

    def test_marks_after(self):
        plan = tunnel()
        self.assertEqual(marks_after(plan, ["n"], "open"), ("m", "n"))
        self.assertEqual(marks_after(plan, ["m", "n"], "open"), ("m", "n"))
        self.assertEqual(marks_after(plan, ("n", "m"), "shut"), ())
        self.assertEqual(marks_after(plan, [], "shut"), ())
        self.assertEqual(marks_after(plan, ["n"], "both"), ("m",))
        # Whether the deed is allowed is not asked.
        self.assertEqual(marks_after(plan, ["n"], "only.m"), ("n",))

    def test_spent_after(self):
        plan = tunnel()
        self.assertEqual(spent_after(plan, ["n"], [], "open"), ("s", "t"))
        self.assertEqual(spent_after(plan, ["m", "n"], ["t", "s"], "shut"), ("s", "t"))
        self.assertEqual(spent_after(plan, [], ["t", "s"], "new.t"), ("s",))
        self.assertEqual(spent_after(plan, ["m"], ["t", "s"], "new.t"), ("s", "t"))
        self.assertEqual(spent_after(plan, ["n"], ("s",), "both"), ("t",))
        self.assertEqual(spent_after(plan, [], [], "only.m"), ())
        self.assertEqual(spent_after(plan, [], ["u"], "shut"), ("u",))

    def test_steps_against_the_plain_reading(self):
        chance = random.Random(201)
        for _ in range(150):
            plan = tiny_plan(chance)
            for _ in range(4):
                course = Course(plan)
                course.marks = {mark for mark in plan.marks if chance.random() < 0.5}
                course.spent = {x for x in plan.secrets if chance.random() < 0.5}
                marks, spent = sorted(course.marks, reverse=True), sorted(course.spent, reverse=True)
                self.assertEqual(allowed(plan, marks), [deed.name for deed in plan.deeds if is_allowed(deed, marks)])
                for deed in plan.deeds:
                    after = course.after(deed)
                    self.assertEqual(marks_after(plan, marks, deed.name), tuple(sorted(after.marks)))
                    self.assertEqual(spent_after(plan, tuple(marks), spent, deed.name), tuple(sorted(after.spent)))

    def test_deeds_that_the_plan_lacks(self):
        for plan in [two_house(), Plan(5, start=Deed("start"))]:
            for name in NO_DEEDS:
                check_raises(self, NoDeed, {"at": 0, "name": name}, lambda: marks_after(plan, [], name))
                check_raises(self, NoDeed, {"at": 0, "name": name}, lambda: spent_after(plan, [], [], name))


class Replays(unittest.TestCase):
    def test_the_empty_course(self):
        plan = tunnel()
        for course in [(), []]:
            self.assertEqual(replay(plan, course), [(("n",), ("s",), {"s": 0, "t": 0, "u": 0})])
        self.assertEqual(replay(Plan(5, start=Deed("start")), []), [((), (), {})])

    def test_a_course_written_out(self):
        plan = tunnel()
        course = ["open", "shut", "new.t", "both", "open"]
        self.assertEqual(replay(plan, course), [
            (("n",), ("s",), {"s": 0, "t": 0, "u": 0}), (("m", "n"), ("s", "t"), {"s": 0, "t": 0, "u": 0}),
            ((), ("s", "t"), {"s": 0, "t": 0, "u": 0}), ((), ("s",), {"s": 0, "t": 1, "u": 0}),
            (("m",), ("t",), {"s": 1, "t": 2, "u": 0}), (("m",), ("t",), {"s": 1, "t": 2, "u": 0}),
        ])
        self.assertEqual(replay(plan, tuple(course)), replay(plan, course))
        self.assertEqual(course, ["open", "shut", "new.t", "both", "open"])

    def test_dates_stand_in_the_order_of_the_slots(self):
        plan = Plan(5, start=Deed("start", renews=["z", "a", "m"]), deeds=[Deed("new", renews=["m", "z"])])
        for _, _, dates in replay(plan, ["new", "new"]):
            self.assertEqual(list(dates), ["z", "a", "m"])

    def test_a_road_that_opens_and_closes_again_before_its_secret_is_renewed(self):
        plan = tunnel()
        spent = [times[1] for times in replay(plan, ["shut", "open", "shut", "shut", "new.t"])]
        self.assertEqual(spent, [("s",), ("s",), ("s", "t"), ("s", "t"), ("s", "t"), ("s",)])

    def test_a_deed_that_renews_the_secret_while_its_road_fits(self):
        self.assertEqual([times[1] for times in replay(tunnel(), ["new.t", "open", "new.t"])][-1], ("s", "t"))

    def test_against_the_plain_reading(self):
        chance = random.Random(202)
        for _ in range(150):
            plan = tiny_plan(chance, chance.randint(0, 1))
            walk, names, wanted = Course(plan), [], []
            wanted.append((tuple(sorted(walk.marks)), tuple(sorted(walk.spent)), dict(walk.dates)))
            for _ in range(12):
                deeds = [deed for deed in plan.deeds if is_allowed(deed, walk.marks)]
                if deeds:
                    deed = chance.choice(deeds)
                    walk = walk.after(deed)
                    names.append(deed.name)
                    wanted.append((tuple(sorted(walk.marks)), tuple(sorted(walk.spent)), dict(walk.dates)))
            self.assertEqual(replay(plan, names), wanted)

    def test_sixty_deeds(self):
        plan = refresh_house(5, ["a", "b"], (2, ("a", "b")))
        times = replay(plan, ["refresh"] * 60)
        self.assertEqual([dates["s.1"] for _, _, dates in times], list(range(61)))
        self.assertEqual(times[-1], ((), (), {"k.a": 0, "k.b": 0, "s.1": 60, "s": 0}))

    def test_the_first_bad_place_counts(self):
        plan = two_house(guard=(1, ("a", "b")))
        for name in NO_DEEDS:
            check_raises(self, NoDeed, {"at": 0, "name": name}, lambda: replay(plan, [name, "take.a"]))
            check_raises(self, NoDeed, {"at": 1, "name": name}, lambda: replay(plan, ["take.a", name, "take.b"]))
            check_raises(self, Barred, {"at": 1, "name": "take.b"}, lambda: replay(plan, ["take.a", "take.b", name]))
            check_raises(self, NoDeed, {"at": 3, "name": name}, lambda: replay(plan, ("take.a", "mend", "mend", name)))
        check_raises(self, Barred, {"at": 2, "name": "take.a"}, lambda: replay(plan, ["mend", "take.b", "take.a", "take.a"]))

    def test_a_deed_with_the_name_of_the_start(self):
        plan = Plan(5, start=Deed("start", renews=["s"]), deeds=[Deed("start", renews=["s"])])
        self.assertEqual(replay(plan, ["start"])[1][2], {"s": 1})
        self.assertEqual(marks_after(plan, [], "start"), ())

    def test_dicts_and_lists_are_new(self):
        plan = two_house()
        course = ("mend", "take.a")
        times = replay(plan, course)
        kept = copy.deepcopy(times)
        for _, _, dates in times:
            dates["x"] = 9
            dates.pop("s")
        times.clear()
        self.assertEqual(replay(plan, course), kept)
        times = replay(plan, ("take.a", "take.b"))
        times[0][2]["s"] = 7
        self.assertEqual([dates["s"] for _, _, dates in times], [7, 0, 0])
        names = allowed(plan, [])
        names.append("x")
        self.assertEqual(len(allowed(plan, [])), 3)

    def test_arguments_stay(self):
        plan = tunnel()
        marks, spent = ["n", "m"], ["t", "s"]
        allowed(plan, marks)
        marks_after(plan, marks, "both")
        spent_after(plan, marks, spent, "both")
        self.assertEqual((marks, spent), (["n", "m"], ["t", "s"]))


if __name__ == "__main__":
    unittest.main()
