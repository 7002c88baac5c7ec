"""Point [40] and the interface of kits.py."""

import random
import unittest

from holdingsshut.errors import BadGate
from holdingsshut.kits import (
    any_of, barred_by, key_slot, marks_formula, out_mark, row_letters, rule_letters, take_deed,
)
from holdingsshut.plans import Deed
from tests.helpers import BAD_NAMES, BAD_VALUES, check_raises, fits_plainly, lots_plainly, random_formula

A, S = (("k.a", 1),), (("s", 1),)
BAD_FORMULAS = [
    (5, 5), ("", ""), ("A", "A"), ("a~", "a~"), ((0, ("a",)), (0, ("a",))), ((1, ["a"]), (1, ["a"])), ([1, ("a",)], [1, ("a",)]),
    ((1, ("a", "B")), "B"), ((2, ("a",)), (2, ("a",))), ((True, ("a",)), (True, ("a",))), ((1, ("a", None)), None), (True, True), ((), ()),
]


class Names(unittest.TestCase):
    def test_names(self):
        for device in ["a", "z.9", "abcdefgh"]:
            self.assertEqual((key_slot(device), out_mark(device)), ("k." + device, "o." + device))


class AnyOf(unittest.TestCase):
    def test_any_of(self):
        self.assertIsNone(any_of())
        self.assertEqual(any_of("a"), "a")
        self.assertEqual(any_of("b", "a"), (1, ("b", "a")))
        self.assertEqual(any_of("o.c", "o.a", "o.b"), (1, ("o.c", "o.a", "o.b")))
        self.assertEqual(any_of("a", "a"), (1, ("a", "a")))

    def test_what_it_returns_is_not_checked(self):
        names = [f"a{k}" for k in range(90)]
        self.assertEqual(any_of(*names), (1, tuple(names)))

    def test_barred_by(self):
        self.assertIsNone(barred_by([], None))
        self.assertEqual(barred_by(["o.a"], None), "o.a")
        self.assertEqual(barred_by(["o.b", "o.a"], None), (1, ("o.b", "o.a")))
        self.assertEqual(barred_by([], "x"), "x")
        self.assertEqual(barred_by([], (2, ("a", "b"))), (2, ("a", "b")))
        self.assertEqual(barred_by(["o.a"], "x"), (1, ("o.a", "x")))
        self.assertEqual(barred_by(("o.b", "o.a"), (2, ("a", "b"))), (1, ("o.b", "o.a", (2, ("a", "b")))))

    def test_barred_by_fits_where_a_name_or_the_formula_fits(self):
        chance = random.Random(91)
        for _ in range(40):
            formula = random_formula(chance, list("abcd"), 2)
            names = chance.sample(list("abef"), chance.randint(0, 3))
            both = barred_by(names, formula)
            for lot in lots_plainly("abcdef"):
                wanted = fits_plainly(formula, lot) or any(name in lot for name in names)
                self.assertIs(fits_plainly(both, lot), wanted)

    def test_what_barred_by_returns_is_not_checked(self):
        deep = "a"
        for _ in range(6):
            deep = (1, (deep,))
        self.assertEqual(barred_by(["x"], deep), (1, ("x", deep)))

    def test_bad_formulas(self):
        for formula, part in BAD_FORMULAS:
            check_raises(self, BadGate, {"part": part}, lambda: barred_by(["x"], formula))
            check_raises(self, BadGate, {"part": part}, lambda: barred_by([], formula))
            check_raises(self, BadGate, {"part": part}, lambda: marks_formula(formula))
        for part in BAD_NAMES + [value for value in BAD_VALUES if value is not None]:
            check_raises(self, BadGate, {"part": part}, lambda: barred_by([], part))

    def test_names_stay(self):
        names = ["a", "b"]
        barred_by(names, "c")
        self.assertEqual(names, ["a", "b"])


class MarksFormula(unittest.TestCase):
    def test_each_name_is_replaced(self):
        self.assertEqual(marks_formula("a"), "o.a")
        self.assertEqual(marks_formula((2, ("a", (1, ("b", "a")), "c"))), (2, ("o.a", (1, ("o.b", "o.a")), "o.c")))

    def test_it_fits_the_marks_of_the_lots_that_the_formula_fits(self):
        chance = random.Random(92)
        for _ in range(40):
            formula = random_formula(chance, list("abcd"), 3)
            over_marks = marks_formula(formula)
            for lot in lots_plainly("abcd"):
                self.assertIs(fits_plainly(over_marks, ["o." + d for d in lot]), fits_plainly(formula, lot))

    def test_none_is_refused(self):
        check_raises(self, BadGate, {"part": None}, lambda: marks_formula(None))


class DeedsAndLetters(unittest.TestCase):
    def check_deed(self, deed, **told):
        self.assertIsInstance(deed, Deed)
        wanted = Deed("take.a", **told)
        for name in ["name", "when", "unless", "sets", "clears", "renews", "letters", "tells", "hands"]:
            self.assertEqual(getattr(deed, name), getattr(wanted, name))

    def test_take_deed(self):
        self.check_deed(take_deed("a", [A, S]), sets=["o.a"], tells=[A, S])
        self.check_deed(take_deed("a", (A,), unless="x"), sets=["o.a"], tells=[A], unless="x")
        self.check_deed(take_deed("a", (), unless=(1, ("x", "y"))), sets=["o.a"], unless=(1, ("x", "y")))

    def test_later_changes_of_the_drawer_have_no_effect(self):
        drawer = [A]
        deed = take_deed("a", drawer)
        drawer.append(S)
        self.assertEqual(deed.tells, (A,))

    def test_row_letters(self):
        rows = [("a", (("s", 1), ("s.1", 1))), ("b", (("s.1", 2),)), ("a", ())]
        wanted = (((A,), rows[0][1]), (((("k.b", 1),),), rows[1][1]), ((A,), ()))
        self.assertEqual(row_letters(rows), tuple(rule + (True,) for rule in wanted))
        self.assertEqual(row_letters(tuple(rows), heard=False), tuple(rule + (False,) for rule in wanted))
        self.assertEqual(row_letters([]), ())
        self.assertEqual(len(rows), 3)

    def test_rule_letters(self):
        rules = [((A, S), S), ((S,), ())]
        self.assertEqual(rule_letters(rules), (((A, S), S, True), ((S,), (), True)))
        self.assertEqual(rule_letters(tuple(rules), heard=False), (((A, S), S, False), ((S,), (), False)))
        self.assertEqual(rule_letters([]), ())


if __name__ == "__main__":
    unittest.main()
