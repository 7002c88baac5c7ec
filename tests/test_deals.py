"""Points [19], [10], [11] and [12] and the interface of deals.py."""

import random
import unittest

from holdingsshut.deals import deal, hidden, join, join_weights, secret_counts
from holdingsshut.errors import BadName, FalseShare, Held, NoNumber, Unfit
from holdingsshut.rows import formula_rows, lots_rows
from tests.helpers import (
    BAD_NAMES, BAD_VALUES, BIG, check_bad_primes, check_raises, fits_plainly, lots_plainly, names_plainly,
    number_in, random_formula, span, sum_of, worlds,
)

S = (("s", 1),)
ROWS = [("a", (("s", 1), ("s.1", 1))), ("b", (("s", 1), ("s.1", 2)))]


def sharings():
    """Some sharings: (p, formula, rows, masks)."""
    chance = random.Random(17)
    for _ in range(60):
        formula = random_formula(chance, ["a", "b", "c"], 2)
        p = chance.choice([5, 7])
        rows, masks = chance.choice([formula_rows, lots_rows])(p, formula)
        if len(masks) <= 3 and len(rows) <= 10:
            yield p, formula, rows, masks


class Dealing(unittest.TestCase):
    def test_deal(self):
        self.assertEqual(deal(5, ROWS, {"s": 1, "s.1": 4, "x": 2}), [("a", 0), ("b", 4)])
        self.assertEqual(deal(5, ROWS, {"s": -1, "s.1": BIG}), [("a", (BIG - 1) % 5), ("b", (2 * BIG - 1) % 5)])
        self.assertEqual(deal(5, [], {}), [])
        self.assertEqual(deal(5, [("a", ())], {}), [("a", 0)])

    def test_deal_refuses_the_first_missing_name(self):
        rows = [("a", S)] + ROWS + [("c", (("a", 1),))]
        check_raises(self, NoNumber, {"name": "s.1"}, lambda: deal(5, rows, {"s": 1}))
        check_raises(self, NoNumber, {"name": "s"}, lambda: deal(5, rows, {}))
        check_raises(self, NoNumber, {"name": "a"}, lambda: deal(5, rows, {"s": 1, "s.1": 1}))
        check_bad_primes(self, lambda p: deal(p, rows, {}))
        check_bad_primes(self, lambda p: deal(p, [], {}))

    def test_arguments_stay_and_answers_are_new(self):
        rows, world = list(ROWS), {"s": 9, "s.1": -1}
        first = deal(5, rows, world)
        first.clear()
        self.assertEqual(deal(5, rows, world), [("a", 3), ("b", 2)])
        self.assertEqual((rows, world), (ROWS, {"s": 9, "s.1": -1}))


class Joining(unittest.TestCase):
    def test_example(self):
        self.assertEqual(join(5, ROWS, [(1, 1), (0, 3)]), 0)

    def test_lots_that_fit_bring_the_secret_and_others_do_not(self):
        chance = random.Random(18)
        for p, formula, rows, masks in sharings():
            world = {name: chance.randint(0, p - 1) for name in ("s",) + masks}
            numbers = [number for _, number in deal(p, rows, world)]
            for lot in lots_plainly(names_plainly(formula)):
                told = [(at, numbers[at]) for at, (holder, _) in enumerate(rows) if holder in lot] * 2
                chance.shuffle(told)
                if fits_plainly(formula, lot):
                    self.assertEqual(join(p, rows, told), world["s"])
                else:
                    lot_told = tuple(sorted({rows[at][0] for at, _ in told}))
                    check_raises(self, Unfit, {"lot": lot_told}, lambda: join(p, rows, told))

    def test_first_false_pair(self):
        chance = random.Random(19)
        for p, formula, rows, masks in sharings():
            if not rows:
                continue
            names = ["s"] + list(masks)
            told = [(chance.randrange(len(rows)), chance.randrange(p)) for _ in range(6)]
            left = list(worlds(p, names)) if p ** len(names) < 3000 else None
            if left is None:
                continue
            false = None
            for at, (row, number) in enumerate(told):
                left = [world for world in left if number_in(p, rows[row][1], world) == number]
                if not left:
                    false = at
                    break
            if false is not None:
                check_raises(self, FalseShare, {"at": false}, lambda: join(p, rows, told))
            elif len({world["s"] for world in left}) == 1:
                self.assertEqual(join(p, rows, told), left[0]["s"])
            else:
                with self.assertRaises(Unfit):
                    join(p, rows, told)

    def test_false_pairs(self):
        rows = [("a", S), ("b", S), ("c", (("s", 1), ("s.1", 1))), ("d", (("s.1", 2),)), ("e", ())]
        self.assertEqual(join(5, rows, [(0, 3)]), 3)
        self.assertEqual(join(5, rows, [(0, 3), (0, 3), (1, 3)]), 3)
        self.assertEqual(join(5, rows, [(4, 0), (0, 3)]), 3)
        self.assertEqual(join(5, rows, [(3, 2), (2, 0)]), 4)
        for told, at in [
            ([(0, 3), (1, 2)], 1), ([(0, 3), (0, 2), (1, 1)], 1), ([(2, 1), (0, 3), (3, 0)], 2), ([(4, 1)], 0),
            ([(4, 0), (4, 2)], 1), ([(2, 1), (3, 0), (0, 2), (1, 1)], 2), ([(0, 1), (2, 4), (3, 2), (4, 0)], 2),
        ]:
            check_raises(self, FalseShare, {"at": at}, lambda: join(5, rows, told))

    def test_false_pairs_go_before_unfit_lots(self):
        rows = [("a", (("s.1", 1),)), ("b", S)]
        check_raises(self, FalseShare, {"at": 1}, lambda: join(5, rows, [(0, 3), (0, 2)]))
        check_raises(self, Unfit, {"lot": ("a",)}, lambda: join(5, rows, [(0, 3), (0, 3)]))
        check_raises(self, Unfit, {"lot": ()}, lambda: join(5, rows, []))

    def test_pairs_that_are_not_needed_are_looked_at(self):
        rows = [("a", S), ("b", (("s.1", 1),))]
        check_raises(self, FalseShare, {"at": 2}, lambda: join(5, rows, [(0, 3), (1, 2), (1, 3)]))
        self.assertEqual(join(5, rows, [(0, 3), (1, 2)]), 3)

    def test_other_secrets(self):
        rows = [("b", (("t", 2),)), ("a", (("s", 1),))]
        self.assertEqual(join(5, rows, [(0, 1)], secret="t"), 3)
        check_raises(self, Unfit, {"lot": ("b",)}, lambda: join(5, rows, [(0, 1)]))
        check_raises(self, Unfit, {"lot": ("a", "b")}, lambda: join(5, rows, [(0, 1), (1, 1), (0, 1)], secret="x"))

    def test_told_stays_as_it_was(self):
        told, rows = [(1, 1), (0, 3)], list(ROWS)
        self.assertEqual(join(5, rows, told), join(5, tuple(rows), tuple(told)))
        self.assertEqual((told, rows), ([(1, 1), (0, 3)], ROWS))


class Weights(unittest.TestCase):
    def test_example(self):
        self.assertEqual(join_weights(5, ROWS, ["b", "a"]), ((0, 2), (1, 4)))

    def test_weights_name_accepted_rows_alone(self):
        rows = [("c", (("s.1", 1),)), ("a", (("s.1", 2),)), ("a", ()), ("a", S), ("b", (("s", 2), ("s.1", 1)))]
        self.assertEqual(join_weights(5, rows, ["a", "b"]), ((3, 1),))
        self.assertEqual(join_weights(5, rows, ["b", "a", "a", "z"]), ((3, 1),))
        self.assertEqual(join_weights(5, rows, ["b", "c"]), ((0, 2), (4, 3)))
        self.assertEqual(join_weights(5, rows, ["c", "a"]), ((3, 1),))

    def test_weights_sum_to_the_secret(self):
        for p, formula, rows, _ in sharings():
            for lot in lots_plainly(names_plainly(formula)):
                if not fits_plainly(formula, lot):
                    check_raises(self, Unfit, {"lot": lot}, lambda: join_weights(p, rows, list(lot[::-1])))
                    continue
                weights = join_weights(p, rows, lot[::-1])
                numbers = [number for number, _ in weights]
                self.assertEqual(numbers, sorted(set(numbers)))
                self.assertTrue(all(1 <= by <= p - 1 for _, by in weights))
                self.assertEqual(sum_of(p, [(by, rows[number][1]) for number, by in weights]), S)
                own = [at for at, (holder, _) in enumerate(rows) if holder in lot]
                for number in numbers:
                    before = [rows[at][1] for at in own if at < number]
                    self.assertNotIn(rows[number][1], span(p, before) if len(before) < 5 else ())

    def test_unfit_lots_are_told_as_lots(self):
        check_raises(self, Unfit, {"lot": ("a",)}, lambda: join_weights(5, ROWS, ["a"]))
        check_raises(self, Unfit, {"lot": ()}, lambda: join_weights(5, ROWS, []))
        check_raises(self, Unfit, {"lot": ("b", "x", "z")}, lambda: join_weights(5, ROWS, ["z", "b", "x", "b"]))
        check_raises(self, Unfit, {"lot": ("a", "b")}, lambda: join_weights(5, ROWS, ["b", "a"], secret="t"))
        self.assertEqual(join_weights(5, ROWS, ["b", "a"], secret="s.1"), ((0, 4), (1, 1)))


class Hiding(unittest.TestCase):
    def test_hidden(self):
        self.assertEqual(hidden(5, ROWS, ["a"]), (("s", 1), ("s.1", 4)))
        self.assertEqual(hidden(5, ROWS, []), S)
        self.assertEqual(hidden(5, [], ["a"]), S)
        self.assertEqual(hidden(5, ROWS, ["z"], secret="t"), (("t", 1),))
        self.assertEqual(hidden(5, ROWS, ["a"], secret="s.1"), (("s", 4), ("s.1", 1)))

    def test_hidden_moves_the_secret_and_no_row_of_the_lot(self):
        for p, formula, rows, masks in sharings():
            for lot in lots_plainly(names_plainly(formula)):
                if fits_plainly(formula, lot):
                    check_raises(self, Held, {"form": S}, lambda: hidden(p, rows, list(lot)))
                    continue
                moves = dict(hidden(p, rows, list(lot)))
                self.assertEqual(moves["s"], 1)
                self.assertTrue(all(number_in(p, form, moves) == 0 for holder, form in rows if holder in lot))

    def test_held_secrets(self):
        check_raises(self, Held, {"form": S}, lambda: hidden(5, ROWS, ["a", "b"]))
        check_raises(self, Held, {"form": (("t", 1),)}, lambda: hidden(5, [("a", (("t", 3),))], ["a"], secret="t"))


class Counting(unittest.TestCase):
    def test_counts_agree_with_all_worlds(self):
        chance = random.Random(20)
        for p, _, rows, masks in sharings():
            if p ** len(masks) > 400 or not rows:
                continue
            names = list(masks) + ["spare"][: chance.randint(0, 1)]
            told = [(chance.randrange(len(rows)), chance.randrange(p)) for _ in range(chance.randint(0, 3))]
            wanted = [
                sum(
                    all(number_in(p, rows[row][1], {**world, "s": v}) == number for row, number in told)
                    for world in worlds(p, names)
                )
                for v in range(p)
            ]
            self.assertEqual(secret_counts(p, rows, names, told), wanted)

    def test_small_counts(self):
        self.assertEqual(secret_counts(5, ROWS, ["s.1"], []), [5] * 5)
        self.assertEqual(secret_counts(5, ROWS, ["x", "s.1"], []), [25] * 5)
        self.assertEqual(secret_counts(5, ROWS, ["s.1"], [(0, 3)]), [1] * 5)
        self.assertEqual(secret_counts(5, ROWS, ["s.1"], [(1, 1), (0, 3)]), [1, 0, 0, 0, 0])
        self.assertEqual(secret_counts(5, ROWS, ["s.1", "x"], [(1, 1), (0, 3), (1, 1)]), [5, 0, 0, 0, 0])
        self.assertEqual(secret_counts(5, ROWS, ["s.1"], [(0, 1), (0, 3)]), [0] * 5)
        self.assertEqual(secret_counts(2, [("a", S)], [], [(0, 1)]), [0, 1])
        self.assertEqual(secret_counts(2, [("a", S)], [], []), [1, 1])
        self.assertEqual(secret_counts(5, ROWS, ["s", "x"], [], secret="s.1"), [25] * 5)

    def test_many_masks(self):
        rows, masks = lots_rows(3, (6, tuple("abcdefghijkl")))
        self.assertEqual(len(masks), 791)
        self.assertEqual(secret_counts(3, rows, list(masks), [(0, 2)]), [3**790] * 3)

    def test_answers_are_new(self):
        masks, told = ["s.1"], [(0, 3)]
        first = secret_counts(5, ROWS, masks, told)
        first.clear()
        self.assertEqual(secret_counts(5, ROWS, masks, told), [1] * 5)
        self.assertEqual((masks, told), (["s.1"], [(0, 3)]))


class Refusals(unittest.TestCase):
    calls = [
        lambda p, secret: join(p, ROWS, [(0, 1), (0, 2)], secret=secret),
        lambda p, secret: join_weights(p, ROWS, ["a"], secret=secret),
        lambda p, secret: hidden(p, ROWS, ["a", "b"], secret=secret),
        lambda p, secret: secret_counts(p, ROWS, ["s.1"], [], secret=secret),
    ]

    def test_prime_then_secret_then_own_refusals(self):
        for call in self.calls:
            check_bad_primes(self, lambda p: call(p, "S"))
            for secret in BAD_NAMES + BAD_VALUES + ["s~", "s#0"]:
                check_raises(self, BadName, {"name": secret}, lambda: call(5, secret))


if __name__ == "__main__":
    unittest.main()
