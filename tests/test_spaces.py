"""Points [9], [10] and [11] and the interface of spaces.py."""

import random
import unittest

from holdingsshut.errors import Held, NotHeld
from holdingsshut.spaces import Space
from tests.helpers import (
    PRIMES, all_forms, check_bad_primes, check_raises, number_in, random_form, span, sum_of,
)

NAMES = ["a", "b", "b~", "c#0", "d"]
A, B, C = (("a", 1),), (("b", 1),), (("c", 1),)


def is_reduced_basis(rows):
    """Normal rows by ascending lead, each lead in no other row."""
    leads = [row[0][0] for row in rows]
    return (
        leads == sorted(set(leads))
        and all(row[0][1] == 1 for row in rows)
        and all([row for row in rows if lead in dict(row)] == [rows[k]] for k, lead in enumerate(leads))
    )


def accepted_plainly(p, forms):
    kept = []
    for f in forms:
        if f not in span(p, kept):
            kept.append(f)
    return kept


class Examples(unittest.TestCase):
    def setUp(self):
        self.space = Space.over(7, [(("a", 1), ("b", 2)), (("b", 1), ("c", 3))])

    def test_basis(self):
        self.assertEqual(list(self.space), [(("a", 1), ("c", 1)), (("b", 1), ("c", 3))])

    def test_blind_and_mix(self):
        self.assertEqual(self.space.blind(A), (("a", 1), ("b", 3), ("c", 6)))
        self.assertEqual(self.space.mix((("a", 1), ("b", 1), ("c", 4))), ((0, 1), (1, 6)))


class SmallSpaces(unittest.TestCase):
    """Random forms over few names, against a list of all forms of the space."""

    def cases(self):
        chance = random.Random(4)
        for p, names, many in [(2, NAMES, 60), (3, NAMES[:4], 40), (5, NAMES[:3], 30)]:
            for _ in range(many):
                forms = [random_form(chance, p, names, len(names)) for _ in range(chance.randint(0, 6))]
                yield p, names, forms, Space.over(p, forms), span(p, forms)

    def test_membership(self):
        for p, names, _, space, found in self.cases():
            for f in all_forms(p, names):
                self.assertIs(f in space, f in found)

    def test_basis_is_the_only_reduced_one(self):
        for p, _, _, space, found in self.cases():
            rows = list(space)
            self.assertTrue(is_reduced_basis(rows))
            self.assertEqual(span(p, rows), found)
            self.assertEqual(space.rank, len(rows))
            self.assertEqual(p ** space.rank, len(found))

    def test_reduction(self):
        for p, names, _, space, found in self.cases():
            leads = [row[0][0] for row in space]
            for f in all_forms(p, names):
                g = space.reduce(f)
                self.assertIn(sum_of(p, [(1, f), (-1, g)]), found)
                self.assertFalse([name for name, _ in g if name in leads])

    def test_blind_shift(self):
        for p, names, _, space, found in self.cases():
            leads = [row[0][0] for row in space]
            for f in all_forms(p, names):
                if f in found:
                    check_raises(self, Held, {"form": f}, lambda: space.blind(f))
                    continue
                shift = space.blind(f)
                self.assertEqual(shift, tuple(sorted(shift)))
                self.assertTrue(all(1 <= n <= p - 1 for _, n in shift))
                moves = dict(shift)
                self.assertTrue(all(number_in(p, g, moves) == 0 for g in found))
                self.assertEqual(number_in(p, f, moves), 1)
                free = space.reduce(f)[0][0]
                self.assertTrue(all(name == free or name in leads for name in moves))

    def test_mix(self):
        for p, names, _, space, found in self.cases():
            accepted = space.accepted()
            for f in all_forms(p, names):
                if f not in found:
                    check_raises(self, NotHeld, {"form": f}, lambda: space.mix(f))
                    continue
                mix = space.mix(f)
                indexes = [index for index, _ in mix]
                self.assertEqual(indexes, sorted(set(indexes)))
                self.assertTrue(all(1 <= number <= p - 1 for _, number in mix))
                self.assertEqual(sum_of(p, [(by, accepted[index]) for index, by in mix]), f)

    def test_accepted_and_what_add_returns(self):
        for p, _, forms, _, _ in self.cases():
            space, kept = Space(p), []
            for f in forms:
                grows = f not in span(p, kept)
                self.assertIs(space.add(f), grows)
                if grows:
                    kept.append(f)
                self.assertEqual(space.accepted(), kept)
                self.assertEqual(space.rank, len(kept))

    def test_order_of_adding_changes_accepted_forms_alone(self):
        for p, _, forms, space, _ in self.cases():
            other = Space.over(p, forms[::-1])
            self.assertEqual(list(other), list(space))
            self.assertEqual(other.accepted(), accepted_plainly(p, forms[::-1]))

    def test_within(self):
        chance = random.Random(5)
        for p, names, _, space, found in self.cases():
            for _ in range(4):
                inside = chance.sample(names, chance.randint(0, len(names)))
                handed = inside + inside[:1] + ["z", "q#4"]
                part = space.within(handed)
                wanted = {f for f in found if all(name in inside for name, _ in f)}
                self.assertEqual(span(p, list(part)), wanted)
                self.assertTrue(is_reduced_basis(list(part)))
                self.assertEqual(part.accepted(), list(part))
                self.assertEqual(part.p, p)
                self.assertEqual(handed, inside + inside[:1] + ["z", "q#4"])


class GreaterSpaces(unittest.TestCase):
    def test_many_names_and_great_primes(self):
        chance = random.Random(6)
        names = [f"n.{k}" for k in range(40)]
        for p in [2, 13, 97]:
            forms = [random_form(chance, p, names, 5) for _ in range(35)]
            space = Space.over(p, forms)
            self.assertTrue(is_reduced_basis(list(space)))
            for _ in range(30):
                f = sum_of(p, [(chance.randint(0, p - 1), g) for g in forms])
                self.assertIn(f, space)
                accepted = space.accepted()
                self.assertEqual(sum_of(p, [(by, accepted[index]) for index, by in space.mix(f)]), f)
            for _ in range(30):
                f = random_form(chance, p, names + ["other"], 6)
                if f not in space:
                    moves = dict(space.blind(f))
                    self.assertEqual(number_in(p, f, moves), 1)
                    self.assertTrue(all(number_in(p, g, moves) == 0 for g in forms))
            inside = names[::2]
            part = space.within(inside)
            self.assertTrue(all(row in space and all(name in inside for name, _ in row) for row in part))
            # What the space has and the part lacks can be told apart by the rank:
            # the outside coefficients alone have the rank that is missing.
            outer = [tuple(pair for pair in row if pair[0] not in inside) for row in space]
            self.assertEqual(part.rank, space.rank - Space.over(p, outer).rank)


class EdgesOfSpaces(unittest.TestCase):
    def test_the_space_of_the_zero_form(self):
        for p in PRIMES:
            space = Space(p)
            self.assertEqual((space.p, space.rank, list(space), space.accepted()), (p, 0, [], []))
            self.assertIn((), space)
            self.assertNotIn(A, space)
            self.assertIs(space.add(()), False)
            self.assertEqual(space.accepted(), [])
            self.assertEqual((space.reduce(A), space.mix(())), (A, ()))
            self.assertEqual(space.blind((("a", p - 1),)), (("a", p - 1),))
            check_raises(self, Held, {"form": ()}, lambda: space.blind(()))
            check_raises(self, NotHeld, {"form": A}, lambda: space.mix(A))

    def test_multiples_of_an_added_form_are_in_the_space(self):
        for p in PRIMES:
            space = Space.over(p, [(("a", p - 1), ("b", 1))])
            for by in range(p):
                f = sum_of(p, [(by, (("a", 1), ("b", p - 1)))])
                self.assertIn(f, space)
                self.assertIs(space.add(f), False)
            self.assertEqual(list(space), [sum_of(p, [(1, A), (-1, B)])])
            self.assertEqual(space.mix((("a", 1), ("b", p - 1))), ((0, p - 1),))

    def test_accepted_forms_stay_as_they_were_handed_in(self):
        space = Space.over(5, [(("a", 3), ("b", 1)), (("a", 1), ("b", 2)), (("a", 2),), (("b", 4),)])
        self.assertEqual(space.accepted(), [(("a", 3), ("b", 1)), (("a", 2),)])

    def test_within_finds_sums_that_are_no_basis_rows(self):
        space = Space.over(5, [(("a", 1), ("b", 1)), (("a", 1), ("c", 1))])
        self.assertEqual(list(space.within(["b", "c"])), [(("b", 1), ("c", 4))])
        self.assertEqual(list(space.within(["b"])), [])
        self.assertEqual(list(space.within([])), [])
        self.assertEqual(list(space.within(["c", "b", "a", "c"])), list(space))
        # Behind a lead that stays, two names that do not cancel out.
        space = Space.over(5, [(("a", 1), ("x", 1)), (("b", 1), ("x", 2)), (("c", 1), ("x", 1), ("y", 1))])
        self.assertEqual(list(space.within(["a", "b", "c"])), [(("a", 1), ("b", 2))])

    def test_within_and_clone_are_independent_of_the_space(self):
        space = Space.over(5, [(("b", 2), ("c", 1)), A])
        part, twin = space.within(["b", "c"]), space.clone()
        self.assertEqual((list(twin), twin.accepted(), twin.p), (list(space), space.accepted(), 5))
        space.add(C)
        self.assertEqual((list(part), list(twin)), ([(("b", 1), ("c", 3))], [A, (("b", 1), ("c", 3))]))
        self.assertEqual(twin.accepted(), [(("b", 2), ("c", 1)), A])
        self.assertIs(twin.add(B), True)
        self.assertEqual(twin.accepted(), [(("b", 2), ("c", 1)), A, B])
        self.assertEqual(space.accepted(), [(("b", 2), ("c", 1)), A, C])
        self.assertEqual(twin.mix(C), ((0, 1), (2, 3)))
        self.assertEqual(space.mix(B), ((0, 3), (2, 2)))
        self.assertIs(part.add(C), True)
        self.assertEqual((part.accepted(), part.rank), ([(("b", 1), ("c", 3)), C], 2))
        self.assertNotIn(A, part)
        self.assertEqual(space.rank, 3)

    def test_a_clone_keeps_its_rows_when_the_space_clears_its_own(self):
        space = Space.over(7, [(("a", 1), ("c", 2))])
        twin = space.clone()
        space.add(C)
        self.assertEqual(list(space), [A, C])
        self.assertEqual(list(twin), [(("a", 1), ("c", 2))])
        self.assertEqual(twin.mix((("a", 3), ("c", 6))), ((0, 3),))
        self.assertNotIn(A, twin)

    def test_returned_lists_are_new(self):
        forms = [A, B]
        space = Space.over(5, forms)
        forms.append(C)
        space.accepted().append(C)
        list(space).append(C)
        self.assertEqual((space.accepted(), list(space), space.rank), ([A, B], [A, B], 2))
        self.assertEqual(forms, [A, B, C])

    def test_asking_changes_nothing(self):
        space = Space.over(5, [(("a", 1), ("b", 1))])
        for _ in range(2):
            self.assertEqual(space.reduce(A), (("b", 4),))
            self.assertEqual(space.blind(B), (("a", 4), ("b", 1)))
            self.assertEqual(space.mix((("a", 2), ("b", 2))), ((0, 2),))
            self.assertNotIn(A, space)
            space.within(["a"])
            check_raises(self, Held, {"form": ()}, lambda: space.blind(()))
            check_raises(self, NotHeld, {"form": A}, lambda: space.mix(A))
            self.assertEqual((list(space), space.accepted()), ([(("a", 1), ("b", 1))],) * 2)

    def test_tuples_are_as_good_as_lists(self):
        self.assertEqual(list(Space.over(5, (A, B))), [A, B])
        self.assertEqual(list(Space.over(5, (A, B)).within(("b",))), [B])

    def test_bad_primes(self):
        check_bad_primes(self, Space)
        check_bad_primes(self, lambda p: Space.over(p, [A]))
        check_bad_primes(self, lambda p: Space.over(p, []))

    def test_methods_are_defined_in_the_class_itself(self):
        for name in ["over", "add", "__contains__", "__iter__", "rank", "reduce", "blind", "accepted", "mix",
                     "within", "clone"]:
            self.assertIn(name, vars(Space))


if __name__ == "__main__":
    unittest.main()
