"""Points [34], [36] and [29] and the interface of holds.py."""

import functools
import random
import unittest

from holdingsshut.holds import Hold, alike, covers, extended, renamed_hold
from holdingsshut.spaces import Space
from tests.helpers import (
    all_forms, check_bad_primes, closure_plainly, forms_within, random_form, random_rules, span, subspaces, sum_of,
)

A, B, C, D, R, S = [((name, 1),) for name in "abcdrs"]
FIELDS = [(2, ["a", "b", "c~"]), (2, ["a", "b", "c~", "d"]), (3, ["a", "b", "c#0"]), (5, ["a", "b"])]
subspaces = functools.lru_cache(maxsize=None)(lambda p, names, walk=subspaces: walk(p, list(names)))


def form(p, **coefficients):
    return sum_of(p, [(by, ((name, 1),)) for name, by in coefficients.items()])


def cases(seed, many):
    """Holds with what they are made of, small enough to go through all spaces of forms."""
    chance = random.Random(seed)
    for _ in range(many):
        p, names = chance.choice(FIELDS)
        forms = [random_form(chance, p, names, 3) for _ in range(chance.choice([0, 0, 0, 1, 2]))]
        rules = random_rules(chance, p, names, 6)
        if chance.random() < 0.7:
            rules = [rule for rule in rules if rule[0]]
        yield p, names, forms, rules


def names_plainly(forms, rules):
    every = list(forms) + [f for needs, gives in rules for f in list(needs) + [gives]]
    return {name for f in every for name, _ in f}


def check_hold(case, hold):
    """The promises that hold for each hold whatever it was made of."""
    case.assertIsInstance(hold.basis, tuple)
    case.assertIsInstance(hold.boxes, tuple)
    case.assertEqual(hold.basis, tuple(Space.over(hold.p, hold.basis)))
    known, _ = closure_plainly(hold.p, hold.basis, hold.boxes)
    case.assertEqual(known, span(hold.p, hold.basis))
    for at, (needs, gives) in enumerate(hold.boxes):
        others = hold.boxes[:at] + hold.boxes[at + 1:]
        case.assertNotIn(gives, closure_plainly(hold.p, hold.basis + needs, others)[0])
    case.assertEqual(hold.hold_names, tuple(sorted(names_plainly(hold.basis, hold.boxes))))


def reach_plainly(hold, forms):
    return closure_plainly(hold.p, list(hold.basis) + list(forms), hold.boxes)[0]


class Holds(unittest.TestCase):
    def test_the_three_properties(self):
        counts = set()
        for p, names, forms, rules in cases(61, 250):
            hold = Hold(p, forms, rules)
            self.assertEqual(hold.p, p)
            known, _ = closure_plainly(p, forms, rules)
            self.assertEqual(span(p, hold.basis), known)
            check_hold(self, hold)
            self.assertLessEqual(set(hold.hold_names), names_plainly(forms, rules))
            counts.add(len(hold.boxes))
            for told in subspaces(p, tuple(names)):
                wanted, _ = closure_plainly(p, forms + told, rules)
                self.assertEqual(reach_plainly(hold, told), wanted)
                space = hold.reach(told)
                self.assertIsInstance(space, Space)
                self.assertEqual(forms_within(p, names, space), wanted)
        self.assertGreater(len(counts), 4)

    def test_membership_and_entailment(self):
        for p, names, forms, rules in cases(62, 120):
            hold = Hold(p, forms, rules)
            known, _ = closure_plainly(p, forms, rules)
            chance = random.Random(63)
            told = [random_form(chance, p, names, 2) for _ in range(2)]
            wanted, _ = closure_plainly(p, forms + told, rules)
            for f in all_forms(p, names):
                self.assertIs(f in hold, f in known)
                self.assertIs(hold.entails(told, f), f in wanted)
                self.assertIs(hold.entails([], f), f in known)

    def test_holds_without_forms_and_without_rules(self):
        empty = Hold(5, [], [])
        self.assertEqual((empty.p, empty.basis, empty.boxes, empty.hold_names), (5, (), (), ()))
        self.assertTrue(() in empty and A not in empty)
        self.assertEqual(list(empty.reach([A])), [A])
        forms_alone = Hold(5, [form(5, a=2, b=2), form(5, a=1, b=1)], [])
        self.assertEqual((forms_alone.basis, forms_alone.boxes), ((form(5, a=1, b=1),), ()))
        rules_alone = Hold(5, (), (((A,), B),))
        self.assertEqual((rules_alone.basis, len(rules_alone.boxes)), ((), 1))
        self.assertEqual(rules_alone.hold_names, ("a", "b"))

    def test_rules_all_of_whose_needs_are_known_at_once(self):
        hold = Hold(5, [A], [((A,), B), ((B, A), C), ((form(5, a=3),), D), (((),), S)])
        self.assertEqual((hold.basis, hold.boxes), ((A, B, C, D, S), ()))
        self.assertEqual(Hold(5, [], [((), A), ((A,), B)]).basis, (A, B))

    def test_a_rule_some_of_whose_needs_are_known(self):
        hold = Hold(5, [A], [((A, B), S)])
        self.assertEqual((hold.basis, len(hold.boxes)), ((A,), 1))
        self.assertTrue(hold.entails([B], S) and not hold.entails([A], S))

    def test_idle_rules(self):
        for rules, many in [
            ([((A,), ())], 0), ([((A,), A)], 0), ([((A, B), form(5, a=1, b=3))], 0), ([((A,), B), ((A,), B)], 1),
            ([((A,), B), ((form(5, a=2),), form(5, b=4))], 1), ([((A,), B), ((A, C), B)], 1),
            ([((A, C), B), ((A,), B)], 1), ([((A,), B), ((B,), C), ((A,), C)], 2), ([((A,), C), ((B,), C), ((A,), B)], 2),
            ([((A,), B), ((A,), form(5, a=2, b=1))], 1), ([((A,), B), ((B,), A)], 2),
            ([((A, B), C), ((form(5, a=1, b=1), form(5, a=1, b=4)), C)], 1),
        ]:
            for told in [rules, rules[::-1]]:
                hold = Hold(5, [], told)
                self.assertEqual(len(hold.boxes), many, told)
                check_hold(self, hold)

    def test_rules_that_make_one_another_idle(self):
        # Each of the three is idle beside the other two, but not all can go.
        rules = [((A,), form(5, b=1, c=1)), ((A,), form(5, b=1, c=2)), ((A,), form(5, b=1, c=3))]
        hold = Hold(5, [], rules)
        self.assertEqual(len(hold.boxes), 2)
        self.assertTrue(hold.entails([A], B) and hold.entails([A], C))
        cycle = [((A,), B), ((B,), A), ((A,), S), ((B,), S)]
        self.assertEqual(len(Hold(5, [], cycle).boxes), 3)

    def test_rules_that_are_idle_once_forms_are_known(self):
        hold = Hold(5, [form(5, a=1, b=4)], [((A,), S), ((B,), S), ((A,), B), ((C,), form(5, a=1, b=4, c=1))])
        self.assertEqual(len(hold.boxes), 1)
        check_hold(self, hold)

    def test_needs_are_met_by_sums_alone(self):
        both = form(5, a=1, b=1)
        hold = Hold(5, [], [((both,), S), ((A,), R)])
        self.assertTrue(hold.entails([both], S) and hold.entails([A, B], S) and not hold.entails([A], S))
        self.assertFalse(hold.entails([both], A) or hold.entails([both], R))

    def test_names_do_not_depend_on_how_boxes_are_written(self):
        chance = random.Random(64)
        for p, _, forms, rules in cases(65, 150):
            hold = Hold(p, forms, rules)
            for _ in range(3):
                other = other_writing(chance, hold)
                self.assertEqual(other.hold_names, hold.hold_names)
                self.assertTrue(alike(hold, other))

    def test_a_hold_of_its_own_basis_and_boxes_is_alike(self):
        for p, _, forms, rules in cases(66, 60):
            hold = Hold(p, forms, rules)
            again = Hold(p, hold.basis, hold.boxes)
            self.assertEqual((again.basis, len(again.boxes)), (hold.basis, len(hold.boxes)))
            self.assertTrue(alike(hold, again))

    def test_sixty_boxes(self):
        keys = [((f"k.{k:02}", 1),) for k in range(60)]
        rules = [((key,), (("r", k + 1), ("s", 1))) for k, key in enumerate(keys)]
        hold = Hold(97, [], rules + rules)
        self.assertEqual(len(hold.boxes), 60)
        self.assertTrue(hold.entails(keys[3:5], S))
        self.assertFalse(hold.entails(keys[3:4], S))

    def test_bad_primes(self):
        check_bad_primes(self, lambda p: Hold(p, [], []))
        check_bad_primes(self, lambda p: Hold(p, [A], [((A,), B)]))

    def test_arguments_stay_and_reaches_are_new(self):
        forms, rules, told = [A], [((B,), C), ((A, D), S)], [B]
        hold = Hold(5, forms, rules)
        space = hold.reach(told)
        space.add(S)
        self.assertFalse(hold.entails(told, S))
        self.assertEqual(list(hold.reach(told)), [A, B, C])
        self.assertEqual((forms, rules, told), ([A], [((B,), C), ((A, D), S)], [B]))
        rules.clear()
        forms.clear()
        self.assertTrue(hold.entails([B], C) and A in hold)
        first, second = Hold(5, [A], [((B,), C)]), Hold(5, (A,), (((B,), C),))
        self.assertEqual((first.basis, first.boxes), (second.basis, second.boxes))


def other_writing(chance, hold):
    """An alike hold whose boxes are written otherwise."""
    p = hold.p
    rules = []
    for needs, gives in hold.boxes:
        needs = [sum_of(p, [(chance.randint(1, p - 1), need)]) for need in needs]
        if len(needs) > 1:
            needs[0] = sum_of(p, [(1, needs[0]), (chance.randrange(p), needs[1])])
        if hold.basis:
            needs[-1] = sum_of(p, [(1, needs[-1]), (chance.randrange(p), chance.choice(hold.basis))])
        gives = sum_of(p, [(chance.randint(1, p - 1), gives)] + [(chance.randrange(p), need) for need in needs])
        chance.shuffle(needs)
        rules.append((tuple(needs), gives))
    if len(rules) > 1:
        one, two = chance.sample(rules, 2)
        rules.append((one[0] + two[0], sum_of(p, [(1, one[1]), (1, two[1])])))
    chance.shuffle(rules)
    return Hold(p, list(hold.basis), rules)


class Covering(unittest.TestCase):
    def test_covering_is_a_question_of_reaches(self):
        chance = random.Random(67)
        found = {True: 0, False: 0}
        for p, names, forms, rules in cases(68, 120):
            small = Hold(p, forms, rules)
            others = [Hold(p, forms + [random_form(chance, p, names, 2)], rules), Hold(p, forms, rules[1:]),
                      Hold(p, forms, rules + random_rules(chance, p, names, 2)), Hold(p, [], random_rules(chance, p, names, 6))]
            for big in others:
                for one, two in [(big, small), (small, big)]:
                    wanted = all(
                        reach_plainly(two, told) <= reach_plainly(one, told) for told in subspaces(p, tuple(names))
                    )
                    self.assertIs(covers(one, two), wanted)
                    found[wanted] += 1
                self.assertIs(alike(big, small), covers(big, small) and covers(small, big))
        self.assertGreater(min(found.values()), 100)

    def test_covering_in_both_directions(self):
        small, big = Hold(5, [], [((A, B), S)]), Hold(5, [], [((A,), S)])
        self.assertEqual((covers(big, small), covers(small, big), alike(big, small)), (True, False, False))
        known = Hold(5, [S], [])
        self.assertEqual((covers(known, big), covers(big, known)), (True, False))
        more = Hold(5, [A], [])
        self.assertEqual((covers(more, Hold(5, [], [])), covers(Hold(5, [], []), more)), (True, False))
        self.assertEqual((covers(more, known), covers(known, more)), (False, False))
        self.assertTrue(alike(Hold(5, [], []), Hold(5, [], [((A,), A), ((B,), ())])))

    def test_boxes_that_are_written_otherwise(self):
        one = Hold(5, [], [((A,), B), ((B,), C)])
        two = Hold(5, [], [((form(5, a=3),), form(5, b=2, a=1)), ((form(5, b=4),), C), ((A,), form(5, b=1, c=1))])
        self.assertTrue(alike(one, two))
        known = Hold(5, [form(5, a=1, b=4)], [((A,), S)])
        other = Hold(5, [form(5, a=2, b=3)], [((form(5, b=2),), form(5, s=3, a=1))])
        self.assertTrue(alike(known, other))


class MoreHolds(unittest.TestCase):
    def test_extended(self):
        chance = random.Random(69)
        for p, names, forms, rules in cases(70, 80):
            hold = Hold(p, forms, rules)
            more = [random_form(chance, p, names, 2) for _ in range(chance.randint(0, 2))]
            later = random_rules(chance, p, names, 3)
            wider = extended(hold, more, later)
            check_hold(self, wider)
            self.assertTrue(alike(wider, Hold(p, forms + more, rules + later)))
            self.assertTrue(covers(wider, hold))
        self.assertTrue(alike(extended(hold, (), ()), hold))

    def test_extended_leaves_the_hold_as_it_was(self):
        hold, forms, rules = Hold(5, [], [((A,), B)]), [A], [((B,), C)]
        wider = extended(hold, forms, rules)
        self.assertEqual((wider.basis, wider.boxes), ((A, B, C), ()))
        self.assertEqual((hold.basis, len(hold.boxes), forms, rules), ((), 1, [A], [((B,), C)]))

    def test_renamed(self):
        for p, names, forms, rules in cases(71, 80):
            for table in [{}, {"a": "a~"}, {"a": "b", "b": "a"}, {"a": "z", "b": "a", "c~": "b", "d": "y", "c#0": "c"}]:
                def new(f):
                    return tuple(sorted((table.get(name, name), n) for name, n in f))

                hold = Hold(p, forms, rules)
                other = renamed_hold(hold, table)
                check_hold(self, other)
                renamed = [(tuple(new(need) for need in needs), new(gives)) for needs, gives in rules]
                self.assertTrue(alike(other, Hold(p, [new(f) for f in forms], renamed)))
                self.assertEqual(other.hold_names, tuple(sorted(table.get(name, name) for name in hold.hold_names)))

    def test_renaming_replaces_all_names_at_once(self):
        table = {"a": "b", "b": "c", "x": "y"}
        hold = renamed_hold(Hold(5, [form(5, a=1, b=2)], [((D,), form(5, s=1, b=1))]), table)
        self.assertEqual(hold.basis, (form(5, b=1, c=2),))
        self.assertTrue(hold.entails([D], form(5, s=1, c=1)))
        self.assertEqual(table, {"a": "b", "b": "c", "x": "y"})


if __name__ == "__main__":
    unittest.main()
