"""Points [35] and [34] and the interface of fading.py."""

import itertools
import random
import unittest

from holdingsshut.fading import fade, fade_all
from holdingsshut.holds import Hold, alike
from tests.helpers import closure_plainly
from tests.test_holds import (
    A, B, C, D, R, S, cases, check_hold, form, other_writing, reach_plainly, subspaces,
)

KA, KB, KC = [((name, 1),) for name in ["k.a", "k.b", "k.c"]]


def without(forms, names):
    return {f for f in forms if not any(name in names for name, _ in f)}


class Fading(unittest.TestCase):
    def test_example(self):
        hold = Hold(5, [], [((KA,), form(5, r=1, s=1)), ((KB,), form(5, r=2, s=1))])
        small = fade(hold, "r")
        self.assertEqual((small.basis, len(small.boxes)), ((), 1))
        self.assertEqual((small.entails([KA, KB], S), small.entails([KA], S), small.entails([KB], S)), (True, False, False))
        self.assertNotIn("r", small.hold_names)
        self.assertEqual(len(hold.boxes), 2)

    def test_the_reach_of_forms_without_the_name_stays(self):
        seen = set()
        for p, names, forms, rules in cases(81, 250):
            hold = Hold(p, forms, rules)
            for name in names:
                faded = fade(hold, name)
                check_hold(self, faded)
                self.assertEqual(faded.p, p)
                self.assertNotIn(name, faded.hold_names)
                self.assertLessEqual(set(faded.hold_names), set(hold.hold_names))
                for told in subspaces(p, tuple(x for x in names if x != name)):
                    wanted = without(closure_plainly(p, forms + told, rules)[0], [name])
                    self.assertEqual(reach_plainly(faded, told), wanted)
                basis = any(name in dict(row) for row in hold.basis)
                gives = any(name in dict(gives) for _, gives in hold.boxes)
                seen.add((basis, gives, any(name in dict(need) for needs, _ in hold.boxes for need in needs)))
        self.assertEqual(len(seen), 8)

    def test_a_name_that_nothing_names(self):
        for p, _, forms, rules in cases(82, 40):
            hold = Hold(p, forms, rules)
            for name in ["z", "q~", "a#7"]:
                self.assertTrue(alike(fade(hold, name), hold))
        self.assertEqual(fade(Hold(5, [], []), "a").basis, ())

    def test_a_name_in_the_basis(self):
        # The known form r + a stands for r wherever r is named.
        hold = Hold(5, [form(5, a=1, r=1)], [((R,), S), ((B,), form(5, c=1, r=2))])
        faded = fade(hold, "r")
        self.assertEqual(faded.basis, ())
        self.assertTrue(faded.entails([A], S))
        self.assertTrue(faded.entails([B], form(5, c=1, a=3)))
        self.assertFalse(faded.entails([B], C))
        self.assertEqual(len(faded.boxes), 2)

    def test_a_name_in_several_rows_of_the_basis(self):
        hold = Hold(5, [form(5, a=1, r=1), form(5, b=1, r=2), form(5, d=1)], [((A,), S)])
        for name, row in [("r", form(5, a=1, b=2)), ("a", form(5, b=1, r=2)), ("b", form(5, a=1, r=1))]:
            faded = fade(hold, name)
            self.assertEqual(faded.basis, (row, D))
            check_hold(self, faded)
        self.assertEqual(fade(hold, "d").basis, (form(5, a=1, r=1), form(5, b=1, r=2)))

    def test_a_name_that_boxes_give_and_other_boxes_need(self):
        hold = Hold(5, [], [((A,), R), ((R,), S), ((B,), form(5, r=1, c=1))])
        faded = fade(hold, "r")
        self.assertTrue(faded.entails([A], S) and faded.entails([A, B], C) and faded.entails([B, C], S))
        self.assertFalse(faded.entails([B], S) or faded.entails([B], C))
        self.assertEqual(len(faded.boxes), 3)

    def test_a_name_that_boxes_only_need_or_only_give(self):
        self.assertEqual(fade(Hold(5, [], [((R,), S), ((A, form(5, r=1, b=1)), S)]), "r").boxes, ())
        self.assertEqual(fade(Hold(5, [], [((A,), form(5, r=1, s=1))]), "r").boxes, ())
        kept = fade(Hold(5, [], [((R,), S), ((A,), B)]), "r")
        self.assertEqual(kept.hold_names, ("a", "b"))

    def test_a_box_that_needs_and_gives_the_name(self):
        hold = Hold(5, [], [((A,), R), ((form(5, r=1, b=1),), form(5, r=1, s=1))])
        faded = fade(hold, "r")
        self.assertTrue(faded.entails([A, B], S))
        self.assertFalse(faded.entails([A], S) or faded.entails([B], S))

    def test_dropping_boxes_would_lose_later_thefts(self):
        # From k.a and k.b together, not from one of them alone.
        hold = Hold(7, [], [((KA,), form(7, s=1, r=1)), ((KB,), form(7, s=1, r=2)), ((KC,), form(7, s=1, r=3))])
        faded = fade(hold, "r")
        for keys in itertools.combinations([KA, KB, KC], 2):
            self.assertTrue(faded.entails(keys, S))
        self.assertEqual(len(faded.boxes), 3)
        twice = fade(faded, "k.a")
        self.assertEqual((len(twice.boxes), twice.hold_names), (1, ("k.b", "k.c", "s")))

    def test_long_chains_of_old_names(self):
        names = [f"x.{k}" for k in range(12)]
        rules = [((((one, 1),),), ((two, 1),)) for one, two in zip(names, names[1:])]
        hold = fade_all(Hold(3, [], rules), names[1:-1])
        self.assertEqual(hold.boxes, (((((names[0], 1),),), ((names[-1], 1),)),))


class FadingSeveral(unittest.TestCase):
    def test_reaches_of_several_names(self):
        for p, names, forms, rules in cases(83, 80):
            hold = Hold(p, forms, rules)
            for many in [0, 2, 3]:
                gone = names[:many]
                faded = fade_all(hold, gone)
                check_hold(self, faded)
                self.assertFalse(set(gone) & set(faded.hold_names))
                for told in subspaces(p, tuple(names[many:])):
                    wanted = without(closure_plainly(p, forms + told, rules)[0], gone)
                    self.assertEqual(reach_plainly(faded, told), wanted)

    def test_different_orders(self):
        for p, names, forms, rules in cases(84, 60):
            hold = Hold(p, forms, rules)
            first = fade_all(hold, names[:3])
            for order in itertools.permutations(names[:3]):
                self.assertTrue(alike(fade_all(hold, order), first))
                self.assertEqual(fade_all(hold, order).hold_names, first.hold_names)

    def test_repeated_names_change_nothing_more(self):
        hold = Hold(5, [form(5, a=1, r=1)], [((R,), S), ((B,), form(5, c=1, r=2))])
        once, twice = fade_all(hold, ["r", "b"]), fade_all(hold, ["r", "b", "r", "b", "b"])
        self.assertTrue(alike(once, twice))
        self.assertEqual(twice.hold_names, once.hold_names)
        self.assertTrue(alike(fade_all(hold, []), hold))
        self.assertTrue(alike(fade_all(hold, ()), hold))

    def test_how_boxes_are_written_does_not_matter(self):
        chance = random.Random(85)
        for p, names, forms, rules in cases(86, 80):
            hold = Hold(p, forms, rules)
            other = other_writing(chance, hold)
            for name in names:
                self.assertTrue(alike(fade(hold, name), fade(other, name)))
                self.assertEqual(fade(hold, name).hold_names, fade(other, name).hold_names)

    def test_arguments_stay(self):
        hold, names = Hold(5, [form(5, a=1, r=1)], [((R,), S)]), ["r", "a"]
        before = hold.basis, hold.boxes
        first, second = fade_all(hold, names), fade_all(hold, tuple(names))
        self.assertEqual((first.basis, first.boxes), (second.basis, second.boxes))
        self.assertEqual(((hold.basis, hold.boxes), names), (before, ["r", "a"]))

    def test_many_rows_of_a_shared_secret(self):
        # Six holders, any three of whom open the secret; two masks fade.
        p, keys = 97, [((f"k.{x}", 1),) for x in "abcdef"]
        rules = [((key,), form(p, s=1, r=k, q=k * k)) for k, key in enumerate(keys, 1)]
        hold = fade_all(Hold(p, [], rules), ["r", "q"])
        self.assertEqual(len(hold.boxes), 20)
        for lot in itertools.combinations(keys, 3):
            self.assertTrue(hold.entails(lot, S))
        for lot in itertools.combinations(keys, 2):
            self.assertFalse(hold.entails(lot, S))


if __name__ == "__main__":
    unittest.main()
