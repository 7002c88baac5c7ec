"""Points [13], [14] and [16] and the interface of lots.py."""

import math
import random
import unittest

from holdingsshut.errors import BadGate, BadLots
from holdingsshut.formulas import check_formula, fits
from holdingsshut.lots import dual, formula_of_lots, least_lots, least_of, unfit_lots
from tests.helpers import check_raises, fits_plainly, lots_plainly, names_plainly, random_formula

NAMES_12 = tuple(f"n.{k}" for k in range(12))


def least_plainly(formula):
    fit = [lot for lot in lots_plainly(names_plainly(formula)) if fits_plainly(formula, lot)]
    return [lot for lot in fit if not any(set(other) < set(lot) for other in fit)]


def unfit_plainly(formula):
    names = names_plainly(formula)
    return [
        lot for lot in lots_plainly(names)
        if not fits_plainly(formula, lot) and all(fits_plainly(formula, lot + (x,)) for x in names - set(lot))
    ]


class LotsOfFormulas(unittest.TestCase):
    def formulas(self):
        chance = random.Random(12)
        return ["a", (1, ("a",)), (2, ("a", "a", "b")), (2, ("b", "a")), (1, ("b", "a")), (2, ("c", "a", "b"))] + [
            random_formula(chance, ["c", "a", "b.1", "b", "d"], 3) for _ in range(150)
        ]

    def test_small_examples(self):
        self.assertEqual((least_lots("a"), unfit_lots("a")), ([("a",)], [()]))
        self.assertEqual(least_lots((2, ("c", "a", "b"))), [("a", "b"), ("a", "c"), ("b", "c")])
        self.assertEqual(unfit_lots((2, ("c", "a", "b"))), [("a",), ("b",), ("c",)])
        self.assertEqual(least_lots((2, ("a", "a", "b"))), [("a",)])
        self.assertEqual(unfit_lots((2, ("a", "a", "b"))), [("b",)])
        self.assertEqual(least_lots((1, ((2, ("a", "b")), "c"))), [("c",), ("a", "b")])
        self.assertEqual(unfit_lots((1, ((2, ("a", "b")), "c"))), [("a",), ("b",)])
        self.assertEqual((least_lots((1, ("a", "b"))), unfit_lots((1, ("a", "b")))), ([("a",), ("b",)], [()]))

    def test_least_lots(self):
        for formula in self.formulas():
            self.assertEqual(least_lots(formula), least_plainly(formula))

    def test_unfit_lots(self):
        for formula in self.formulas():
            self.assertEqual(unfit_lots(formula), unfit_plainly(formula))

    def test_unfit_lots_are_the_complements_of_the_dual(self):
        for formula in self.formulas():
            names = names_plainly(formula)
            complements = [tuple(sorted(names - set(lot))) for lot in least_lots(dual(formula))]
            self.assertEqual(sorted(complements), sorted(unfit_lots(formula)))

    def test_twelve_names(self):
        formula = (6, NAMES_12)
        lots = least_lots(formula)
        self.assertEqual(len(lots), math.comb(12, 6))
        self.assertEqual(lots, sorted(lots))
        self.assertEqual(len(unfit_lots(formula)), math.comb(12, 5))
        formula = (40, NAMES_12 + ("n.0",) * 38 + ("n.1",) * 30)
        self.assertEqual(least_lots(formula)[0], ("n.0", "n.1"))
        self.assertEqual(unfit_lots(formula)[-1], tuple(sorted(set(NAMES_12) - {"n.0", "n.1"})))
        self.assertEqual(unfit_lots(formula)[0], ("n.0",))

    def test_two_hundred_places(self):
        formula = (1, tuple((24, NAMES_12 * 4 + ("n.3",)) for _ in range(4)))
        self.assertEqual(len(least_lots(check_formula(formula))), len(least_plainly((24, NAMES_12 * 4 + ("n.3",)))))

    def test_order_by_length_then_as_tuples(self):
        formula = (1, ((2, ("b", "c")), (2, ("b", "a")), "z", "d"))
        self.assertEqual(least_lots(formula), [("d",), ("z",), ("a", "b"), ("b", "c")])
        formula = (2, ((1, ("a", "b", "c")), (1, ("d", "z")), ))
        self.assertEqual(unfit_lots(formula), [("d", "z"), ("a", "b", "c")])
        formula = (2, ((1, ("b", "c", "d")), (1, ("a", "z")), ))
        self.assertEqual(unfit_lots(formula), [("a", "z"), ("b", "c", "d")])

    def test_dual(self):
        self.assertEqual(dual("a"), "a")
        self.assertEqual(dual((1, ("a",))), (1, ("a",)))
        self.assertEqual(dual((2, ("a", (1, ("b", "c")), "a", "d"))), (3, ("a", (2, ("b", "c")), "a", "d")))
        for formula in self.formulas():
            names = names_plainly(formula)
            self.assertEqual(dual(dual(formula)), formula)
            for lot in lots_plainly(names):
                self.assertEqual(fits_plainly(dual(formula), lot), not fits_plainly(formula, names - set(lot)))

    def test_bad_formulas(self):
        for call in [dual, least_lots, unfit_lots]:
            for formula, part in [("A", "A"), ((2, ("a", "B")), "B"), ((3, ("a", "b")), (3, ("a", "b"))),
                                  ((1, NAMES_12 + ("x",)), (1, NAMES_12 + ("x",))), (["a"], ["a"]), (None, None)]:
                check_raises(self, BadGate, {"part": part}, lambda: call(formula))

    def test_returned_lists_are_new(self):
        for call in [least_lots, unfit_lots]:
            first = call((2, ("a", "b")))
            first.append("x")
            self.assertEqual(call((2, ("a", "b"))), first[:-1])


class ListsOfLots(unittest.TestCase):
    def test_least_of(self):
        self.assertEqual(least_of([]), [])
        self.assertEqual(least_of([["b", "a"], [], ["c"]]), [()])
        self.assertEqual(least_of([()]), [()])
        lots = [["c", "b", "c"], ["a", "b", "c"], ("d",), ["b", "c"], ["d", "a"], ["b", "a"]]
        self.assertEqual(least_of(lots), [("d",), ("a", "b"), ("b", "c")])
        self.assertEqual(lots, [["c", "b", "c"], ["a", "b", "c"], ("d",), ["b", "c"], ["d", "a"], ["b", "a"]])

    def test_least_of_agrees_with_the_definition(self):
        chance = random.Random(13)
        for _ in range(150):
            lots = [
                [chance.choice("abcde") for _ in range(chance.randint(0 if chance.random() < 0.1 else 1, 5))]
                for _ in range(chance.randint(0, 12))
            ]
            plain = {frozenset(lot) for lot in lots}
            wanted = [tuple(sorted(lot)) for lot in plain if not any(other < lot for other in plain)]
            self.assertEqual(least_of(lots), sorted(wanted, key=lambda lot: (len(lot), lot)))

    def test_a_thousand_lots(self):
        lots = [[f"n.{a}", f"n.{b}", f"n.{c}"] for a in range(10) for b in range(10, 20) for c in range(20, 30)]
        self.assertEqual(len(lots), 1000)
        self.assertEqual(least_of(lots), sorted(tuple(sorted(lot)) for lot in lots))
        self.assertEqual(len(least_of(lots[1:] + [["n.0"]])), 901)

    def test_formula_of_lots(self):
        self.assertEqual(formula_of_lots([["a"]]), "a")
        self.assertEqual(formula_of_lots([["a", "a"]]), "a")
        self.assertEqual(formula_of_lots([["b", "a"]]), (2, ("a", "b")))
        self.assertEqual(formula_of_lots([["b", "a"], ["a", "b", "c"]]), (2, ("a", "b")))
        lots = [["b", "a"], ["c"], ["a", "c"], ["d", "b"]]
        self.assertEqual(formula_of_lots(lots), (1, ("c", (2, ("a", "b")), (2, ("b", "d")))))
        self.assertEqual(lots, [["b", "a"], ["c"], ["a", "c"], ["d", "b"]])

    def test_formula_of_lots_fits_what_contains_a_lot(self):
        chance = random.Random(14)
        for _ in range(60):
            lots = [chance.sample("abcd", chance.randint(1, 4)) for _ in range(chance.randint(1, 4))]
            formula = formula_of_lots(lots)
            for lot in lots_plainly("abcd"):
                self.assertEqual(fits(formula, lot), any(set(small) <= set(lot) for small in lots))

    def test_formula_of_lots_is_not_checked(self):
        lots = [[f"n.{k}"] for k in range(100)]
        formula = formula_of_lots(lots)
        self.assertEqual((formula[0], len(formula[1])), (1, 100))
        names = tuple(sorted(f"n.{k}" for k in range(90)))
        self.assertEqual(formula_of_lots([list(names)]), (90, names))

    def test_formula_of_lots_refuses_no_lots_and_the_empty_lot(self):
        check_raises(self, BadLots, {"lots": ()}, lambda: formula_of_lots([]))
        check_raises(self, BadLots, {"lots": ()}, lambda: formula_of_lots(()))
        check_raises(self, BadLots, {"lots": ((),)}, lambda: formula_of_lots([[]]))
        lots = [["b", "a", "b"], ["c"], [], ["a", "b"], ("c",)]
        told = (("a", "b"), ("c",), (), ("a", "b"), ("c",))
        check_raises(self, BadLots, {"lots": told}, lambda: formula_of_lots(lots))


if __name__ == "__main__":
    unittest.main()
