"""Points [13], [14] and [15] and the interface of formulas.py."""

import random
import unittest

from holdingsshut.errors import BadFormula, BadGate
from holdingsshut.formulas import check_formula, fits, formula_names, gate, read_formula, show_formula
from tests.helpers import (
    BAD_NAMES, GOOD_NAMES, check_raises, fits_plainly, lots_plainly, names_plainly, random_formula,
)


def nested(gates, inside="a"):
    """The value inside so many gates."""
    for _ in range(gates):
        inside = (1, (inside,))
    return inside


def wide(places):
    return (1, ("a",) * places)


NAMES_12 = tuple(f"n.{k}" for k in range(12))
PLACES_200 = (3, (wide(80), wide(80), wide(36), "a"))
PLACES_201 = (3, (wide(80), wide(80), wide(37), "a"))
GOOD = [
    "a", "a" * 20, (1, ("a",)), (2, ("a", "a", "b")), (1, ("a", (2, ("b", "c")))), wide(80), (80, ("a",) * 80),
    nested(6), (12, NAMES_12), PLACES_200, (1, (nested(5), nested(5))),
]
# Pairs of a value and the first bad part of it.
BAD = [
    (nested(7), (1, ("a",))),
    (nested(6, (0, ())), (0, ())),
    (nested(6, "A"), "A"),
    ((1, ("a", "B", "C")), "B"),
    ((3, ("a", "B")), (3, ("a", "B"))),
    ((1, ((1, ("a", "B")), "C")), "B"),
    ((1, ((2, ("B",)), "C")), (2, ("B",))),
    ((1, (nested(6), "C")), (1, ("a",))),
    ((1, ("C", nested(6))), "C"),
    ((1, (["a"], "C")), ["a"]),
    ((1, (("a", "b"),)), ("a", "b")),
]
BAD_WHOLE = [
    (0, ()), (1, ()), (0, ("a",)), (2, ("a",)), (-1, ("a",)), (81, ("a",) * 81), wide(81), (10**39, ("a",)),
    (True, ("a",)), (False, ("a",)), (1.0, ("a",)), ("1", ("a",)), (None, ("a",)), (1, ["a"]), (1, "a"), (1, {"a": 1}),
    [1, ("a",)], (1,), (1, ("a",), ("b",)), (), ("a",), (1, None), None, True, 1, 1.5, b"a", ["a"], {"a"}, "a~", "a#0",
    (13, NAMES_12 + ("x",)), (1, NAMES_12 + ("x",)), PLACES_201,
    (1, ((1, NAMES_12[:7]), (1, NAMES_12[7:]), "x")), (80, (wide(2),) * 80),
] + BAD_NAMES


class Checking(unittest.TestCase):
    def test_formulas_are_returned(self):
        for formula in GOOD + GOOD_NAMES:
            self.assertIs(check_formula(formula), formula)

    def test_first_bad_part_is_refused(self):
        for formula, part in BAD + [(whole, whole) for whole in BAD_WHOLE]:
            for call in [check_formula, show_formula, formula_names, lambda f: fits(f, ["a"])]:
                check_raises(self, BadGate, {"part": part}, lambda: call(formula))

    def test_bad_parts_go_before_bounds_of_the_whole(self):
        check_raises(self, BadGate, {"part": "B"}, lambda: check_formula((1, NAMES_12 + ("x", "B"))))
        formula = (1, (wide(80), wide(80), wide(80), (2, ("a",))))
        check_raises(self, BadGate, {"part": (2, ("a",))}, lambda: check_formula(formula))

    def test_places_of_parts_that_stand_several_times_count_each_time(self):
        self.assertIsNotNone(check_formula((1, (wide(9),) * 20)))
        formula = (1, (wide(9),) * 20 + ("a",))
        check_raises(self, BadGate, {"part": formula}, lambda: check_formula(formula))

    def test_gate(self):
        self.assertEqual(gate(2, "a", "b", gate(1, "c")), (2, ("a", "b", (1, ("c",)))))
        self.assertEqual(gate(1, "a"), (1, ("a",)))
        check_raises(self, BadGate, {"part": (0, ())}, lambda: gate(0))
        check_raises(self, BadGate, {"part": (1, ())}, lambda: gate(1))
        check_raises(self, BadGate, {"part": (2, ("a",))}, lambda: gate(2, "a"))
        check_raises(self, BadGate, {"part": "B"}, lambda: gate(2, "a", "B"))
        check_raises(self, BadGate, {"part": ["a"]}, lambda: gate(1, ["a"]))
        check_raises(self, BadGate, {"part": (["a"], ("b",))}, lambda: gate(["a"], "b"))
        check_raises(self, BadGate, {"part": (True, ("b",))}, lambda: gate(True, "b"))
        check_raises(self, BadGate, {"part": (1, ("a",))}, lambda: gate(1, nested(6)))
        check_raises(self, BadGate, {"part": wide(81)}, lambda: gate(1, *["a"] * 81))
        check_raises(self, BadGate, {"part": (1, NAMES_12 + ("x",))}, lambda: gate(1, *NAMES_12, "x"))


class Fitting(unittest.TestCase):
    def test_places_are_counted_not_names(self):
        formula = (2, ("a", "a", "b"))
        self.assertIs(fits(formula, ["a"]), True)
        self.assertIs(fits(formula, ["b"]), False)
        self.assertIs(fits(formula, ["b", "b", "b"]), False)
        self.assertIs(fits(formula, []), False)
        self.assertIs(fits(formula, ("b", "a")), True)

    def test_names_fit_lots_that_contain_them(self):
        self.assertIs(fits("a", ["b", "a"]), True)
        self.assertIs(fits("a", ["b"]), False)
        self.assertIs(fits("a", []), False)

    def test_strange_names_change_nothing(self):
        chance = random.Random(9)
        for _ in range(60):
            formula = random_formula(chance, ["a", "b", "c"], 3)
            for lot in lots_plainly(["a", "b", "c"]):
                wanted = fits_plainly(formula, lot)
                self.assertIs(fits(formula, list(lot)), wanted)
                self.assertIs(fits(formula, ["z"] + list(lot[::-1]) + ["z.1"] + list(lot)), wanted)

    def test_no_formula_fits_the_empty_lot_and_each_its_own_names(self):
        for formula in GOOD:
            self.assertIs(fits(formula, []), False)
            self.assertIs(fits(formula, list(formula_names(formula))), True)

    def test_wide_gates(self):
        formula = (80, NAMES_12 + ("n.0",) * 68)
        self.assertIs(fits(formula, NAMES_12), True)
        self.assertIs(fits(formula, NAMES_12[:-1]), False)

    def test_formula_names(self):
        self.assertEqual(formula_names("a"), ("a",))
        self.assertEqual(formula_names((2, ("b", "a", (1, ("b", "a.", "a"))))), ("a", "a.", "b"))
        chance = random.Random(10)
        for _ in range(60):
            formula = random_formula(chance, ["d", "c", "b.1", "b", "a"], 3)
            self.assertEqual(formula_names(formula), tuple(sorted(names_plainly(formula))))

    def test_arguments_stay(self):
        lot = ["b", "a", "b"]
        fits((1, ("a", "b")), lot)
        self.assertEqual(lot, ["b", "a", "b"])


class Written(unittest.TestCase):
    def test_show_formula(self):
        self.assertEqual(show_formula("a.1"), "a.1")
        self.assertEqual(show_formula((2, ("a", "b", (1, ("c", "d"))))), "2(a, b, 1(c, d))")
        self.assertEqual(show_formula((1, ("a",))), "1(a)")
        self.assertEqual(show_formula((12, NAMES_12)), "12(" + ", ".join(NAMES_12) + ")")

    def test_reading_what_is_shown(self):
        chance = random.Random(11)
        for formula in GOOD + [random_formula(chance, ["a", "b.1", "c9"], 4) for _ in range(100)]:
            self.assertEqual(read_formula(show_formula(formula)), formula)

    def test_blanks_before_between_and_behind_tokens(self):
        tokens = ["2", "(", "a", ",", "1", "(", "b", ",", "c.1", ")", ")"]
        wanted = (2, ("a", (1, ("b", "c.1"))))
        for blanks in ["", " ", "   "]:
            self.assertEqual(read_formula(blanks + blanks.join(tokens) + blanks), wanted)
        self.assertEqual(read_formula("  a  "), "a")

    def test_faults_are_told_by_their_index(self):
        faults = [
            ("", 0), (" ", 1), ("   ", 3), ("2", 1), ("2 ", 2), ("2(", 2), ("2( ", 3), ("2(a", 3), ("2(a ", 4),
            ("2(a,", 4), ("2(a, ", 5), ("2(a,b", 5), ("2(1(a)", 6), ("1()", 2), ("1( )", 3), ("1(,a)", 2), ("1(a,)", 4),
            ("1(a,,b)", 4), ("1(a b)", 4), ("1(a(b))", 3), ("a b", 2), ("a, b", 1), ("a)", 1), ("1(a))", 4),
            ("1(a) b", 5), ("1(a) 1", 5), ("1(a),", 4), ("(a)", 0), (")", 0), (",", 0), ("1 a", 2), ("1,", 1), ("1)", 1),
            ("1 1(a)", 2), ("0(a)", 0), ("00(a)", 0), ("01(a)", 0), ("100(a)", 0), ("1a(b)", 0), ("1.(b)", 0), (".", 0),
            (".a", 0), ("a" * 21, 0), ("1(a, " + "b" * 21 + ")", 5), ("1(a, 0)", 5), ("1(a, 1)", 6), ("1(a, 100(b))", 5),
            ("A", 0), ("aB", 1), ("1(a, B)", 5), ("a~", 1), ("a#1", 1), ("1[a]", 1), ("1(a; b)", 3), ("1(a\n)", 3),
            ("\ta", 0), ("1\t(a)", 1), ("a_b", 1), ("-1(a)", 0), ("1(a, -)", 5), ("1(2, a)", 3), ("?", 0), ("  ?", 2),
            ("1(a,b)(c)", 6), ("a a" + "?", 2), ("1(?", 2), ("12", 2), ("12a", 0), ("99(", 3), ("1a", 0), ("a 1a", 2),
        ]
        for text, at in faults:
            check_raises(self, BadFormula, {"text": text, "at": at}, lambda: read_formula(text))

    def test_a_number_inside_six_gates_cannot_stand(self):
        self.assertEqual(read_formula("1(" * 6 + "a" + ")" * 6), nested(6))
        for behind in ["(a)" + ")" * 6, "", "?", "(", ")"]:
            text = "1(" * 6 + "1" + behind
            check_raises(self, BadFormula, {"text": text, "at": 12}, lambda: read_formula(text))
        text = "1(" * 6 + "a, 3(b)" + ")" * 6
        check_raises(self, BadFormula, {"text": text, "at": 15}, lambda: read_formula(text))
        text = "1(" * 5 + "1(a), 1(b)" + ")" * 5
        self.assertEqual(read_formula(text), nested(4, (1, ((1, ("a",)), (1, ("b",))))))

    def test_refused_formulas_have_the_fault_at_0(self):
        texts = [
            "3(a, b)", " 2(a)", "99(a)", "1(a, 2(b))", "1(" + ", ".join(["a"] * 81) + ")",
            "1(" + ", ".join(NAMES_12 + ("x",)) + ")", "1(" + ",".join(["a"] * 6000) + ")",
            "1(" + ", ".join(["1(" + ", ".join(["a"] * 66) + ")"] * 3) + ")",
        ]
        for text in texts:
            check_raises(self, BadFormula, {"text": text, "at": 0}, lambda: read_formula(text))
        good = "1(" + ", ".join(["1(" + ", ".join(["a"] * 65) + ")"] * 3) + ", a, a)"
        self.assertEqual(show_formula(read_formula(good)), good)

    def test_a_fault_of_the_text_goes_before_a_refused_formula(self):
        check_raises(self, BadFormula, {"text": "3(a, b", "at": 6}, lambda: read_formula("3(a, b"))
        check_raises(self, BadFormula, {"text": "3(a, b) c", "at": 8}, lambda: read_formula("3(a, b) c"))
        text = "1(" + ",".join(["a"] * 90) + "?)"
        check_raises(self, BadFormula, {"text": text, "at": len(text) - 2}, lambda: read_formula(text))


if __name__ == "__main__":
    unittest.main()
