"""Points [43], [44], [29], [30] and [4], and the interface of sources.py."""

import itertools
import random
import unittest

from holdingsshut.errors import Barred, NoDeed, UnknownName
from holdingsshut.houses import lock_house, mend_house
from holdingsshut.plans import Deed, Plan
from holdingsshut.rules import close
from holdingsshut.sources import known, present_part, sources
from holdingsshut.spaces import Space
from tests.courses import Course, is_allowed
from tests.helpers import all_forms, check_raises, closure_plainly
from tests.tinyplans import tiny_plan

NO_LOCKS = ["s", "w", "x", "", None, True, 0, ["w.a"], ("w.a",), {"w.a": 1}, "w.a#0", "w.a~", b"w.a"]


def e(name):
    return ((name, 1),)


def full_plan():
    """A plan with letters of every kind, over the locks v and w."""
    return Plan(
        5, start=Deed(
            "start", renews=["k", "s", "w", "v"], tells=[(), e("k")],
            letters=[((e("k"), e("w")), (("k", 1), ("s", 2)), True), ((e("w"),), (), True), ((e("w"),), e("s"), False)],
        ),
        locks=[("w", 0, 1, (1, 2)), ("v", 1, 2, (3,))],
        standing=[((e("k"),), e("s")), ((e("s"),), e("s")), ((e("k"), e("k")), (("k", 2),))],
        roads=[("s", None)],
        deeds=[
            Deed("s.new", renews=["s"], tells=[(("s", 1), ("s~", 4))], letters=[((e("s~"), e("v"), e("k")), e("s"), True)]),
            Deed("k.w", renews=["w", "k"], letters=[((e("k~"),), e("k"), False), ((e("v"),), e("k~"), True)], tells=[e("w")]),
            Deed("quiet"),
        ],
    )


class Sources(unittest.TestCase):
    def test_the_start_written_out(self):
        k, s, w = e("k#0"), e("s#0"), e("w#0")
        plain = [
            (0, "standing", ((k,), s)), (0, "standing", ((s,), s)), (0, "standing", ((k, k), (("k#0", 2),))),
            (0, "tell", ((), ())), (0, "tell", ((), k)),
        ]
        letters = [(0, "letter", ((k, w), (("k#0", 1), ("s#0", 2)))), (0, "letter", ((w,), ()))]
        self.assertEqual(sources(full_plan(), ()), plain + letters)
        self.assertEqual(sources(full_plan(), [], guessed=["v"]), plain + letters)
        guesses = [(0, "guess", ((k,), w)), (0, "guess", ((), w))]
        wanted = plain + [letters[0], guesses[0], letters[1], guesses[1]]
        for guessed in [["w"], ("w", "w"), ["v", "w"], ["w", "v", "w"], ("v", "v", "w")]:
            self.assertEqual(sources(full_plan(), (), guessed=guessed), wanted)

    def test_deeds_written_out(self):
        told = sources(full_plan(), ("s.new", "k.w", "s.new"), guessed=["v"])
        k0, k1, s0, s1, s2, v, w1 = [e(x) for x in ["k#0", "k#1", "s#0", "s#1", "s#2", "v#0", "w#1"]]
        self.assertEqual([row for row in told if row[0] == 1], [
            (1, "standing", ((k0,), s1)), (1, "standing", ((s1,), s1)), (1, "tell", ((), (("s#0", 4), ("s#1", 1)))),
            (1, "letter", ((s0, v, k0), s1)), (1, "guess", ((s0, k0), v)),
        ])
        self.assertEqual([row for row in told if row[0] == 2], [
            (2, "standing", ((k1,), s1)), (2, "standing", ((k1, k1), (("k#1", 2),))), (2, "tell", ((), w1)),
            (2, "letter", ((v,), k0)), (2, "guess", ((), v)),
        ])
        self.assertEqual([row for row in told if row[0] == 3], [
            (3, "standing", ((k1,), s2)), (3, "standing", ((s2,), s2)), (3, "tell", ((), (("s#1", 4), ("s#2", 1)))),
            (3, "letter", ((s1, v, k1), s2)), (3, "guess", ((s1, k1), v)),
        ])
        self.assertEqual([row for row in sources(full_plan(), ["quiet"]) if row[0] == 1], [])

    def test_dates_beyond_nine_are_in_the_order_of_names(self):
        plan = Plan(5, start=Deed("start", renews=["s"]), deeds=[Deed("new", renews=["s"], tells=[(("s", 1), ("s~", 2))])])
        told = sources(plan, ["new"] * 11)
        self.assertEqual(told[8], (9, "tell", ((), (("s#8", 2), ("s#9", 1)))))
        self.assertEqual(told[9], (10, "tell", ((), (("s#10", 1), ("s#9", 2)))))
        self.assertEqual(told[10], (11, "tell", ((), (("s#10", 2), ("s#11", 1)))))

    def test_against_the_plain_reading(self):
        chance = random.Random(211)
        kinds = set()
        for _ in range(300):
            plan = tiny_plan(chance, chance.randint(0, 2))
            guessed = [lock[0] for lock in plan.locks if chance.random() < 0.7]
            walk, names = Course(plan, guessed), []
            for _ in range(5):
                deeds = [deed for deed in plan.deeds if is_allowed(deed, walk.marks)]
                if deeds:
                    deed = chance.choice(deeds)
                    walk = walk.after(deed)
                    names.append(deed.name)
            told = sources(plan, names, guessed=guessed)
            self.assertEqual([rule for _, _, rule in told], walk.rules)
            self.assertEqual([time for time, _, _ in told], sorted(time for time, _, _ in told))
            kinds |= {kind for _, kind, _ in told}
            self.assertEqual([row for row in told if row[1] != "guess"], sources(plan, names))
        self.assertEqual(kinds, {"standing", "tell", "letter", "guess"})

    def test_no_sources(self):
        plan = Plan(5, start=Deed("start", renews=["s"], letters=[((e("s"),), (), False)]))
        self.assertEqual(sources(plan, ()), [])
        self.assertEqual((known(plan, ()).rank, present_part(plan, ())), (0, ()))


class Knowing(unittest.TestCase):
    def test_known_is_the_closure_of_the_rules_of_sources(self):
        chance = random.Random(212)
        for _ in range(100):
            plan = tiny_plan(chance, chance.randint(0, 1))
            guessed = [lock[0] for lock in plan.locks]
            course = [deed.name for deed in plan.deeds if deed.when is None and deed.unless is None]
            space = known(plan, course, guessed=guessed)
            wanted = close(plan.p, [rule for _, _, rule in sources(plan, course, guessed=guessed)])
            self.assertIsInstance(space, Space)
            self.assertEqual((list(space), space.accepted()), (list(wanted), wanted.accepted()))
            space.add(e("x"))
            self.assertEqual(list(known(plan, tuple(course), guessed=guessed)), list(wanted))

    def test_guesses_open_what_their_letter_tests(self):
        plan = lock_house(5, ["a", "b"], (2, ("a", "b")), [("a", 0, 1, (1,)), ("b", 0, 1, (2,))])
        ranks = [known(plan, (), guessed=told).rank for told in [[], ["w.a"], ["w.a", "w.b"]]]
        # Each guess brings the lock, the key and the row.
        self.assertEqual(ranks, [0, 3, 6])
        self.assertIn(e("s#0"), known(plan, (), guessed=["w.b", "w.a"]))
        self.assertNotIn(e("s#0"), known(plan, (), guessed=["w.b"]))

    def test_a_letter_that_tests_needs_its_other_needs(self):
        plan = full_plan()
        self.assertIn(e("w#0"), known(plan, (), guessed=["w"]))
        quiet = Plan(
            5, start=Deed("start", renews=["k", "w"], letters=[((e("k"), e("w")), (), True), ((e("w"),), e("k"), False)]),
            locks=[("w", 0, 1, (1, 2))],
        )
        self.assertEqual(known(quiet, (), guessed=["w"]).rank, 0)

    def test_the_foe_never_forgets(self):
        plan = mend_house(5, ["a", "b"], (2, ("a", "b")))
        space = known(plan, ("take.a", "mend", "mend"))
        self.assertIn(e("k.a#0"), space)
        self.assertEqual(present_part(plan, ("take.a", "mend", "mend")), ())

    def test_present_part_written_out(self):
        plan = mend_house(2, ["a", "b"], (2, ("a", "b")), masks_new=False)
        self.assertEqual(present_part(plan, ("take.a",)), (e("k.a"), e("s.1")))
        self.assertEqual(present_part(plan, ["take.a", "mend"]), (e("s.1"),))
        sums = Plan(5, start=Deed("start", renews=["a", "b", "c"], tells=[(("a", 1), ("b", 1)), (("a", 1), ("c", 1))]),
                    deeds=[Deed("go", renews=["a"])])
        self.assertEqual(present_part(sums, ()), ((("a", 1), ("c", 1)), (("b", 1), ("c", 4))))
        self.assertEqual(present_part(sums, ["go"]), ((("b", 1), ("c", 4)),))

    def test_present_part_against_all_forms(self):
        chance = random.Random(213)
        many = set()
        for _ in range(150):
            plan = tiny_plan(chance)
            course = [deed.name for deed in plan.deeds if deed.when is None and deed.unless is None] * 2
            walk = Course(plan)
            for name in course:
                walk = walk.after(plan.deed_named(name))
            table = {x: f"{x}#{date}" for x, date in walk.dates.items()}
            closed, _ = closure_plainly(plan.p, [], walk.rules)
            wanted = {f for f in all_forms(plan.p, sorted(plan.slots)) if tuple(sorted((table[x], n) for x, n in f)) in closed}
            basis = present_part(plan, course)
            self.assertEqual(basis, tuple(Space.over(plan.p, basis)))
            self.assertEqual({f for f in all_forms(plan.p, sorted(plan.slots)) if f in Space.over(plan.p, basis)}, wanted)
            many.add(len(basis))
        self.assertGreaterEqual(many, {0, 1, 2})


class Refusals(unittest.TestCase):
    def test_guessed_that_are_no_locks(self):
        plan = lock_house(5, ["a"], "a", [("a", 0, 1, (1,))])
        for call, name in itertools.product([sources, known, present_part], NO_LOCKS):
            for guessed in [[name], ("w.a", name, "y"), [name, "y"]]:
                check_raises(self, UnknownName, {"name": name}, lambda: call(plan, ["x"], guessed=guessed))

    def test_courses(self):
        plan = mend_house(5, ["a", "b"], (2, ("a", "b")))
        for call in [sources, known, present_part]:
            check_raises(self, NoDeed, {"at": 1, "name": None}, lambda: call(plan, ["mend", None, "take.a"]))
            check_raises(self, Barred, {"at": 1, "name": "take.a"}, lambda: call(plan, ["take.a", "take.a", None]))

    def test_arguments_stay_and_answers_are_new(self):
        plan = lock_house(5, ["a"], "a", [("a", 0, 1, (1,))])
        guessed, course = ["w.a", "w.a"], []
        told = sources(plan, course, guessed=guessed)
        many = len(told)
        told.append(1)
        known(plan, course, guessed=guessed)
        present_part(plan, course, guessed=guessed)
        self.assertEqual((guessed, course), (["w.a", "w.a"], []))
        self.assertEqual(len(sources(plan, course, guessed=guessed)), many)


if __name__ == "__main__":
    unittest.main()
