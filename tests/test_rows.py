"""Points [17] and [18] and the interface of rows.py."""

import random
import unittest

from holdingsshut.errors import BadGate, BadName, FieldTooSmall, TwiceNamed
from holdingsshut.lots import unfit_lots
from holdingsshut.rows import formula_rows, lots_rows, rows_of
from holdingsshut.spaces import Space
from tests.helpers import (
    BAD_NAMES, BAD_VALUES, as_form, check_bad_primes, check_raises, fits_plainly, lots_plainly, names_plainly,
    random_formula,
)

BOTH = [formula_rows, lots_rows]
S = (("s", 1),)


def names_from_left(formula):
    if isinstance(formula, str):
        return [formula]
    return [name for place in formula[1] for name in names_from_left(place)]


def shares(rows, formula, p, secret):
    """For each lot of the formula's names, whether its rows span the secret."""
    return [
        (lot, ((secret, 1),) in Space.over(p, [form for holder, form in rows if holder in lot]))
        for lot in lots_plainly(names_plainly(formula))
    ]


class FormulaRows(unittest.TestCase):
    def test_example(self):
        self.assertEqual(
            formula_rows(5, (2, ("a", "b", (1, ("c",))))),
            ([("a", (("s", 1), ("s.1", 1))), ("b", (("s", 1), ("s.1", 2))), ("c", (("s", 1), ("s.1", 3)))], ("s.1",)),
        )

    def test_names_and_gates_of_one(self):
        self.assertEqual(formula_rows(2, "a"), ([("a", S)], ()))
        self.assertEqual(formula_rows(2, (1, ("b", "a", "b"))), ([("b", S), ("a", S), ("b", S)], ()))
        self.assertEqual(formula_rows(2, (1, ("a",))), ([("a", S)], ()))

    def test_gates_of_all_places(self):
        rows, masks = formula_rows(5, (3, ("b", "a", "b")))
        last = (("s", 1), ("s.1", 4), ("s.2", 4))
        self.assertEqual(rows, [("b", (("s.1", 1),)), ("a", (("s.2", 1),)), ("b", last)])
        self.assertEqual(masks, ("s.1", "s.2"))
        rows, masks = formula_rows(2, (2, ("a", "b")))
        self.assertEqual(rows, [("a", (("s.1", 1),)), ("b", (("s", 1), ("s.1", 1)))])

    def test_gates_between(self):
        rows, masks = formula_rows(7, (3, ("a", "b", "c", "d")))
        self.assertEqual(masks, ("s.1", "s.2"))
        for at, (holder, form) in enumerate(rows):
            i = at + 1
            self.assertEqual((holder, form), ("abcd"[at], as_form(7, {"s": 1, "s.1": i, "s.2": i * i})))

    def test_gates_inside_gates_take_masks_in_order(self):
        formula = (2, ((2, ("a", "b")), (2, ("c", (2, ("d", "e")), "f")), "g"))
        rows, masks = formula_rows(5, formula)
        self.assertEqual(masks, ("s.1", "s.2", "s.3", "s.4"))
        second = {"s": 1, "s.1": 2}
        fourth = {"s": 1, "s.1": 2, "s.3": 2}
        self.assertEqual(rows, [
            ("a", (("s.2", 1),)),
            ("b", as_form(5, {"s": 1, "s.1": 1, "s.2": -1})),
            ("c", as_form(5, {**second, "s.3": 1})),
            ("d", (("s.4", 1),)),
            ("e", as_form(5, {**fourth, "s.4": -1})),
            ("f", as_form(5, {**second, "s.3": 3})),
            ("g", as_form(5, {"s": 1, "s.1": 3})),
        ])

    def test_prefix_and_secret(self):
        rows, masks = formula_rows(3, (2, ("a", "b")), secret="x", prefix="m.q")
        self.assertEqual(rows, [("a", (("m.q.1", 1),)), ("b", (("m.q.1", 2), ("x", 1)))])
        self.assertEqual(masks, ("m.q.1",))

    def test_masks_beyond_nine_keep_their_order(self):
        rows, masks = formula_rows(97, (80, ("a",) * 80))
        self.assertEqual(masks, tuple(f"s.{k}" for k in range(1, 80)))
        self.assertEqual(rows[9], ("a", (("s.10", 1),)))
        self.assertEqual(rows[79][1], as_form(97, {"s": 1, **{mask: -1 for mask in masks}}))

    def test_eighty_places(self):
        rows, masks = formula_rows(97, (40, tuple(f"n.{k % 12}" for k in range(80))))
        self.assertEqual((len(rows), masks), (80, tuple(f"s.{k}" for k in range(1, 40))))
        powers = {f"s.{j}": pow(77, j, 97) for j in range(1, 40)}
        self.assertEqual(rows[76], ("n.4", as_form(97, {"s": 1, **powers})))
        space = Space.over(97, [form for _, form in rows[:39]])
        self.assertNotIn(S, space)
        self.assertTrue(space.add(rows[61][1]))
        self.assertIn(S, space)

    def test_a_gate_is_too_wide_for_the_prime(self):
        for p in [2, 3, 5, 7]:
            names = ("a", "b", "c", "d", "e", "f", "g")
            for n in range(3, 8):
                formula = (2, names[:n])
                if n >= p:
                    check_raises(self, FieldTooSmall, {"places": n}, lambda: formula_rows(p, formula))
                else:
                    self.assertEqual(len(formula_rows(p, formula)[0]), n)
                self.assertEqual(len(formula_rows(p, (1, names[:n]))[0]), n)
                self.assertEqual(len(formula_rows(p, (n, names[:n]))[0]), n)
        self.assertEqual(len(formula_rows(83, (79, ("a",) * 80))[0]), 80)
        check_raises(self, FieldTooSmall, {"places": 80}, lambda: formula_rows(79, (79, ("a",) * 80)))

    def test_the_first_gate_that_is_too_wide_is_told(self):
        five, four = (2, ("a",) * 5), (2, ("a",) * 4)
        check_raises(self, FieldTooSmall, {"places": 5}, lambda: formula_rows(3, (1, ((1, (five,)), four))))
        check_raises(self, FieldTooSmall, {"places": 4}, lambda: formula_rows(3, (2, (four, five))))
        check_raises(self, FieldTooSmall, {"places": 3}, lambda: formula_rows(3, (2, (five, "a", four))))

    def test_rows_of_a_lot_span_the_secret_just_if_it_fits(self):
        chance = random.Random(15)
        for _ in range(120):
            formula = random_formula(chance, ["a", "b", "c", "d"], 3)
            p = chance.choice([5, 7, 97])
            rows, masks = formula_rows(p, formula, secret="x")
            self.assertEqual([holder for holder, _ in rows], names_from_left(formula))
            self.assertEqual(masks, tuple(f"s.{k + 1}" for k in range(len(masks))))
            self.assertTrue(all(name == "x" or name in masks for _, form in rows for name, _ in form))
            for lot, brings in shares(rows, formula, p, "x"):
                self.assertEqual(brings, fits_plainly(formula, lot))


class LotsRows(unittest.TestCase):
    def test_example(self):
        self.assertEqual(
            lots_rows(2, (2, ("a", "b"))),
            ([("a", (("s", 1), ("s.1", 1))), ("b", (("s.1", 1),))], ("s.1",)),
        )

    def test_one_unfit_lot(self):
        self.assertEqual(lots_rows(2, "a"), ([("a", S)], ()))
        self.assertEqual(lots_rows(2, (1, ("b", "a"))), ([("a", S), ("b", S)], ()))
        self.assertEqual(lots_rows(3, (2, ("a", "a", "b"))), ([("a", S)], ()))

    def test_rows_stand_by_holder_then_by_unfit_lot(self):
        rows, masks = lots_rows(5, (2, ("c", "b", "a")), secret="x", prefix="m")
        first, second, last = (("m.1", 1),), (("m.2", 1),), (("m.1", 4), ("m.2", 4), ("x", 1))
        self.assertEqual(rows, [("a", second), ("a", last), ("b", first), ("b", last), ("c", first), ("c", second)])
        self.assertEqual(masks, ("m.1", "m.2"))

    def test_a_holder_may_have_no_row(self):
        rows, _ = lots_rows(5, (1, ("a", (2, ("a", "b")))))
        self.assertEqual(rows, [("a", S)])

    def test_wide_gates_need_no_great_prime(self):
        rows, masks = lots_rows(2, (2, ("a", "b", "c", "d")))
        self.assertEqual((len(rows), len(masks)), (12, 3))

    def test_rows_follow_the_unfit_lots(self):
        chance = random.Random(16)
        for _ in range(80):
            formula = random_formula(chance, ["d", "c", "b", "a"], 3)
            p = chance.choice([2, 3, 97])
            rows, masks = lots_rows(p, formula)
            lots = unfit_lots(formula)
            self.assertEqual(masks, tuple(f"s.{k}" for k in range(1, len(lots))))
            pieces = [((mask, 1),) for mask in masks] + [as_form(p, {"s": 1, **{mask: -1 for mask in masks}})]
            wanted = [
                (holder, piece) for holder in sorted(names_plainly(formula))
                for lot, piece in zip(lots, pieces) if holder not in lot
            ]
            self.assertEqual(rows, wanted)
            for lot, brings in shares(rows, formula, p, "s"):
                self.assertEqual(brings, fits_plainly(formula, lot))

    def test_twelve_names(self):
        rows, masks = lots_rows(3, (7, tuple("abcdefghijkl")))
        self.assertEqual((len(masks), len(rows), masks[0], masks[-1]), (923, 12 * 462, "s.1", "s.923"))


class Refusals(unittest.TestCase):
    def test_checks_stand_in_the_order_of_the_signature(self):
        for call in BOTH:
            check_bad_primes(self, lambda p: call(p, "A", secret="B", prefix="C"))
            check_raises(self, BadGate, {"part": "A"}, lambda: call(5, "A", secret="B", prefix="C"))
            check_raises(self, BadName, {"name": "B"}, lambda: call(5, "a", secret="B", prefix="C"))
            check_raises(self, BadName, {"name": "C"}, lambda: call(5, "a", secret="b", prefix="C"))
            check_raises(self, BadName, {"name": "B"}, lambda: call(3, (2, ("a",) * 4), secret="B"))
            check_raises(self, BadName, {"name": "C"}, lambda: call(3, (2, ("a",) * 4), secret="s.1", prefix="C"))

    def test_secret_is_a_plain_name(self):
        for call in BOTH:
            for secret in BAD_NAMES + BAD_VALUES + ["s~", "s#1"]:
                check_raises(self, BadName, {"name": secret}, lambda: call(5, (2, ("a", "b")), secret=secret))
            long = "s" * 20
            self.assertEqual(call(5, "a", secret=long)[0], [("a", ((long, 1),))])

    def test_prefix_is_a_plain_name_of_at_most_8_signs(self):
        for call in BOTH:
            for prefix in BAD_NAMES + BAD_VALUES + ["s~", "s#1", "abcdefghi", "a" * 20]:
                check_raises(self, BadName, {"name": prefix}, lambda: call(5, "a", prefix=prefix))
            self.assertEqual(call(5, (2, ("a", "b")), prefix="abcdefgh")[1], ("abcdefgh.1",))

    def test_a_secret_that_is_a_mask(self):
        formula = (3, ("a", "b", "c"))
        for call in BOTH:
            for secret in ["s.1", "s.2"]:
                check_raises(self, TwiceNamed, {"name": secret}, lambda: call(5, formula, secret=secret))
            for secret in ["s.3", "s.0", "s.01", "s.1.1"]:
                self.assertEqual(call(5, formula, secret=secret)[1], ("s.1", "s.2"))
            self.assertEqual(call(5, (1, ("a", "b")), secret="s.1")[1], ())
        five = (2, ("a",) * 5)
        check_raises(self, FieldTooSmall, {"places": 5}, lambda: formula_rows(5, (2, (five, "b")), secret="s.1"))
        check_raises(self, TwiceNamed, {"name": "m.1"}, lambda: lots_rows(2, (2, ("a", "b")), secret="m.1", prefix="m"))

    def test_a_secret_that_is_a_holder(self):
        self.assertEqual(formula_rows(5, (1, ("s", "a")))[0], [("s", S), ("a", S)])
        self.assertEqual(lots_rows(2, (2, ("s", "a")))[0], [("a", (("s", 1), ("s.1", 1))), ("s", (("s.1", 1),))])


class RowsOf(unittest.TestCase):
    rows = [("b", S), ("a", ()), ("b", (("x", 1),)), ("c", S)]

    def test_rows_of(self):
        self.assertEqual(rows_of(self.rows, ["b"]), [0, 2])
        self.assertEqual(rows_of(self.rows, ["c", "a", "c", "z"]), [1, 3])
        self.assertEqual(rows_of(self.rows, ("c", "b", "a")), [0, 1, 2, 3])
        self.assertEqual(rows_of(self.rows, []), [])
        self.assertEqual(rows_of(self.rows, ["z"]), [])
        self.assertEqual(rows_of([], ["b"]), [])

    def test_answers_are_new_and_arguments_stay(self):
        lot, rows = ["b", "a", "b"], list(self.rows)
        first = rows_of(rows, lot)
        first.append(9)
        self.assertEqual(rows_of(rows, lot), [0, 1, 2])
        self.assertEqual((lot, rows), (["b", "a", "b"], self.rows))
        for call in BOTH:
            rows, masks = call(5, (2, ("a", "b")))
            wanted = list(rows)
            rows.clear()
            self.assertEqual(call(5, (2, ("a", "b"))), (wanted, masks))
            self.assertIsInstance(call(5, "a"), tuple)
            self.assertIsInstance(call(5, "a")[0], list)


if __name__ == "__main__":
    unittest.main()
