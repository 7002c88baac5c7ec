"""Points [20] and [10] and the interface of renewed.py."""

import random
import unittest

from holdingsshut.errors import BadName, Held
from holdingsshut.renewed import cut_paper, dates_space, difference_rows, is_cut_paper
from holdingsshut.rows import formula_rows, lots_rows
from tests.helpers import (
    BAD_NAMES, BAD_VALUES, as_form, check_bad_primes, check_raises, fits_plainly, lots_plainly, number_in,
    random_formula,
)

S = (("s", 1),)
TWO_OF_TWO = [("a", (("s.1", 1),)), ("b", (("s", 1), ("s.1", 4)))]


def dated(p, form, masks, date):
    return as_form(p, {f"{name}#{date}" if name in masks else name: n for name, n in form})


def forms_plainly(p, rows, masks, lots, heard):
    """What the foe has, in order, written out from the document."""
    forms = []
    for date, lot in enumerate(lots):
        forms += [dated(p, form, masks, date) for holder, form in rows if holder in lot]
        if date >= 1 and date - 1 < len(heard):
            for holder, form in rows:
                if holder in heard[date - 1]:
                    new, old = dict(dated(p, form, masks, date)), dict(dated(p, form, masks, date - 1))
                    forms.append(as_form(p, {x: new.get(x, 0) - old.get(x, 0) for x in {**new, **old}}))
    return forms


def sharings():
    chance = random.Random(21)
    for _ in range(60):
        formula = random_formula(chance, ["a", "b", "c", "d"], 2)
        p = chance.choice([5, 7, 97])
        rows, masks = chance.choice([formula_rows, lots_rows])(p, formula)
        lots = [chance.choice(lots_plainly("abcd")) for _ in range(chance.randint(0, 4))]
        heard = [chance.choice(lots_plainly("abcd")) for _ in range(chance.randint(0, 5))]
        yield p, formula, rows, list(masks), [list(lot) for lot in lots], [list(lot) for lot in heard]


class DifferenceRows(unittest.TestCase):
    def test_difference_rows(self):
        self.assertEqual(difference_rows(5, TWO_OF_TWO, ["s.1"]), [
            ("a", (("s.1", 1), ("s.1~", 4))), ("b", (("s.1", 4), ("s.1~", 1))),
        ])
        self.assertEqual(difference_rows(5, [("a", S), ("b", ())], ["s.1"]), [("a", ()), ("b", ())])
        self.assertEqual(difference_rows(2, TWO_OF_TWO, ["s.1"])[0], ("a", (("s.1", 1), ("s.1~", 1))))
        self.assertEqual(difference_rows(5, [], ["s.1"]), [])

    def test_exactly_the_masks_are_replaced(self):
        rows = [("a", (("m", 2), ("s", 1), ("x", 3)))]
        self.assertEqual(difference_rows(5, rows, ["m"]), [("a", (("m", 2), ("m~", 3)))])
        self.assertEqual(difference_rows(5, rows, ["s", "m"]), [("a", (("m", 2), ("m~", 3), ("s", 1), ("s~", 4)))])
        self.assertEqual(difference_rows(5, rows, []), [("a", ())])

    def test_bad_primes(self):
        check_bad_primes(self, lambda p: difference_rows(p, TWO_OF_TWO, ["s.1"]))
        check_bad_primes(self, lambda p: difference_rows(p, [], []))


class DatesSpace(unittest.TestCase):
    def test_forms_are_added_date_by_date(self):
        space = dates_space(5, TWO_OF_TWO, ["s.1"], [["a"], ["b"]], heard=[["b", "a"]])
        self.assertEqual(space.accepted(), [
            (("s.1#0", 1),), (("s", 1), ("s.1#1", 4)), (("s.1#0", 4), ("s.1#1", 1)),
        ])
        self.assertIn(S, space)
        self.assertEqual(space.p, 5)

    def test_accepted_forms_agree_with_the_document(self):
        for p, _, rows, masks, lots, heard in sharings():
            for told in [heard, heard[:1], []]:
                space = dates_space(p, rows, masks, lots, heard=told)
                wanted = forms_plainly(p, rows, masks, lots, told)
                self.assertTrue(all(form in space for form in wanted))
                accepted, at = space.accepted(), 0
                for form in wanted:
                    if at < len(accepted) and form == accepted[at]:
                        at += 1
                self.assertEqual(at, len(accepted))
                self.assertEqual(space.rank, len(accepted))

    def test_old_shares_are_cut_off(self):
        brought = []
        for p, formula, rows, masks, lots, _ in sharings():
            fit = any(fits_plainly(formula, lot) for lot in lots)
            brought.append(fit)
            self.assertEqual(S in dates_space(p, rows, masks, lots), fit)
            self.assertEqual(S in dates_space(p, rows, masks, lots, heard=[[], [], []]), fit)
        self.assertEqual(set(brought), {True, False})

    def test_a_heard_difference_of_somebody_else_may_break_it(self):
        rows, masks = formula_rows(7, (2, ("a", "b", "c")))
        self.assertNotIn(S, dates_space(7, rows, masks, [["a"], ["b"]]))
        self.assertIn(S, dates_space(7, rows, masks, [["a"], ["b"]], heard=[["c"]]))
        self.assertNotIn(S, dates_space(7, rows, masks, [["a"], [], ["b"]], heard=[["c"]]))
        self.assertIn(S, dates_space(7, rows, masks, [["a"], [], ["b"]], heard=[["c"], ["c"]]))
        self.assertNotIn(S, dates_space(7, rows, masks, [["a"], [], ["b"]], heard=[[], ["c"]]))

    def test_heard_lists_that_are_longer_count_for_nothing_more(self):
        space = dates_space(5, TWO_OF_TWO, ["s.1"], [["a"]], heard=[["a", "b"], ["b"]])
        self.assertEqual(space.accepted(), [(("s.1#0", 1),)])
        space = dates_space(5, TWO_OF_TWO, ["s.1"], [[], []], heard=[["a"], ["b"], ["a"]])
        self.assertEqual(space.accepted(), [(("s.1#0", 4), ("s.1#1", 1))])
        self.assertEqual(dates_space(5, TWO_OF_TWO, ["s.1"], [], heard=[["a"]]).rank, 0)

    def test_masks_that_have_the_secret_or_lack_a_name(self):
        space = dates_space(5, TWO_OF_TWO, ["s", "s.1"], [["a", "b"], []], heard=[["b"]])
        self.assertNotIn(S, space)
        self.assertIn((("s#0", 1),), space)
        self.assertEqual(space.accepted()[2], (("s#0", 4), ("s#1", 1), ("s.1#0", 1), ("s.1#1", 4)))
        space = dates_space(5, TWO_OF_TWO, [], [["a"], ["b"]], heard=[["a", "b"]])
        self.assertEqual(space.accepted(), [(("s.1", 1),), (("s", 1), ("s.1", 4))])
        self.assertIn(S, space)

    def test_ten_dates(self):
        rows, masks = formula_rows(11, (3, ("a", "b", "c", "d", "e")))
        lots = [["a", "b"], ["c", "d"]] * 5
        space = dates_space(11, rows, masks, lots)
        self.assertEqual(space.rank, 20)
        self.assertNotIn(S, space)
        self.assertIn((("s", 1), ("s.1#9", 3), ("s.2#9", 9)), space)
        self.assertIn(S, dates_space(11, rows, masks, lots, heard=[[]] * 8 + [["a", "c"]]))

    def test_bad_primes(self):
        check_bad_primes(self, lambda p: dates_space(p, TWO_OF_TWO, ["s.1"], [["a"]]))
        check_bad_primes(self, lambda p: dates_space(p, [], [], []))


class CutPapers(unittest.TestCase):
    def test_papers_are_blind_shifts(self):
        for p, _, rows, masks, lots, heard in sharings():
            space = dates_space(p, rows, masks, lots, heard=heard)
            if S in space:
                check_raises(self, Held, {"form": S}, lambda: cut_paper(p, rows, masks, lots, heard=heard))
                continue
            shift = cut_paper(p, rows, masks, lots, heard=heard)
            self.assertEqual(shift, space.blind(S))
            self.assertIs(is_cut_paper(p, rows, masks, lots, shift, heard=heard), True)

    def test_each_wrong_paper_is_refused(self):
        forms_checked = 0
        chance = random.Random(22)
        for p, _, rows, masks, lots, heard in sharings():
            forms = forms_plainly(p, rows, masks, lots, heard)
            names = ["s"] + [f"{mask}#{date}" for mask in masks for date in range(len(lots))]
            for _ in range(20):
                moves = {name: chance.randint(0, p - 1) for name in names}
                moves["s"] = chance.choice([1, 1, 1, 0, p - 1])
                right = moves["s"] == 1 and all(number_in(p, form, moves) == 0 for form in forms)
                forms_checked += right
                self.assertIs(is_cut_paper(p, rows, masks, lots, as_form(p, moves), heard=heard), right)
        self.assertGreater(forms_checked, 20)

    def test_changes_of_one_number(self):
        rows, masks = formula_rows(7, (2, ("a", "b", "c")))
        lots, heard = [["a"], ["b"], ["a"]], [[], []]
        shift = cut_paper(7, rows, masks, lots, heard=heard)
        self.assertEqual(shift, (("s", 1), ("s.1#0", 6), ("s.1#1", 3), ("s.1#2", 6)))
        for k, (name, number) in enumerate(shift):
            other = shift[:k] + ((name, number % 6 + 1),) + shift[k + 1:]
            self.assertIs(is_cut_paper(7, rows, masks, lots, other), False)
            self.assertIs(is_cut_paper(7, rows, masks, lots, shift[:k] + shift[k + 1:]), False)
        self.assertIs(is_cut_paper(7, rows, masks, lots, ()), False)
        self.assertIs(is_cut_paper(7, rows, masks, lots, shift, heard=[["c"]]), False)
        self.assertIs(is_cut_paper(7, rows, masks, lots, shift + (("z", 4),)), True)

    def test_rows_that_are_not_needed_count_too(self):
        rows = [("a", (("s.1", 1),)), ("a", (("s.1", 1), ("s.2", 1)))]
        masks = ["s.1", "s.2"]
        self.assertIs(is_cut_paper(5, rows, masks, [["a"]], S), True)
        self.assertIs(is_cut_paper(5, rows, masks, [["a"]], S + (("s.2#0", 1),)), False)
        self.assertIs(is_cut_paper(5, rows, masks, [[], ["a"]], S + (("s.2#0", 1),)), True)
        self.assertIs(is_cut_paper(5, rows, masks, [[], []], S + (("s.2#0", 1),), heard=[["a"]]), False)

    def test_any_such_shift_is_right(self):
        self.assertIs(is_cut_paper(5, TWO_OF_TWO, ["s.1"], [["a"]], S + (("x", 2), ("y~", 3))), True)
        self.assertIs(is_cut_paper(5, TWO_OF_TWO, ["s.1"], [["b"]], S + (("s.1#0", 1),)), True)
        self.assertIs(is_cut_paper(5, [], [], [], S), True)

    def test_other_secrets(self):
        rows = [("a", (("m", 1),)), ("b", (("m", 4), ("t", 1)))]
        self.assertEqual(cut_paper(5, rows, ["m"], [["b"]], secret="t"), (("m#0", 1), ("t", 1)))
        check_raises(self, Held, {"form": (("t", 1),)}, lambda: cut_paper(5, rows, ["m"], [["a", "b"]], secret="t"))
        self.assertIs(is_cut_paper(5, rows, ["m"], [["b"]], (("m#0", 1), ("t", 1)), secret="t"), True)
        self.assertIs(is_cut_paper(5, rows, ["m"], [["b"]], (("m#0", 1), ("t", 1))), False)

    def test_the_unit_of_the_secret_is_always_plain(self):
        self.assertEqual(cut_paper(5, TWO_OF_TWO, ["s", "s.1"], [["a", "b"]]), S)
        self.assertIs(is_cut_paper(5, TWO_OF_TWO, ["s", "s.1"], [["a", "b"]], S), True)
        self.assertIs(is_cut_paper(5, TWO_OF_TWO, ["s", "s.1"], [["a", "b"]], (("s#0", 1),)), False)

    def test_prime_then_secret(self):
        calls = [
            lambda p, secret: cut_paper(p, TWO_OF_TWO, ["s.1"], [["a", "b"]], secret=secret),
            lambda p, secret: is_cut_paper(p, TWO_OF_TWO, ["s.1"], [["a"]], (), secret=secret),
        ]
        for call in calls:
            check_bad_primes(self, lambda p: call(p, "S"))
            for secret in BAD_NAMES + BAD_VALUES + ["s~", "s#0"]:
                check_raises(self, BadName, {"name": secret}, lambda: call(5, secret))

    def test_arguments_stay_and_answers_repeat(self):
        rows, masks, lots, heard = list(TWO_OF_TWO), ["s.1"], [["a"], ["a"]], [["a"]]
        first = cut_paper(5, rows, masks, lots, heard=heard)
        difference_rows(5, rows, masks).clear()
        self.assertEqual(cut_paper(5, tuple(rows), tuple(masks), tuple(lots), heard=tuple(heard)), first)
        self.assertEqual(difference_rows(5, rows, masks), difference_rows(5, TWO_OF_TWO, ["s.1"]))
        self.assertEqual((rows, masks, lots, heard), (TWO_OF_TWO, ["s.1"], [["a"], ["a"]], [["a"]]))


if __name__ == "__main__":
    unittest.main()
