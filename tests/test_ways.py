"""Points [12], [10], [9] and [7] and the interface of ways.py."""

import random
import unittest

from holdingsshut.errors import NoNumber, UnknownName
from holdingsshut.spaces import Space
from holdingsshut.ways import agreeing, moved_world, one_world, value_counts
from tests.helpers import (
    BIG, PRIMES, all_forms, check_bad_primes, check_raises, number_in, random_form, worlds,
)

NAMES = ["d", "a~", "b#3", "c"]
A, B = (("a", 1),), (("b", 1),)


def agreeing_plainly(p, names, told):
    return [w for w in worlds(p, names) if all(number_in(p, f, w) == n for f, n in told)]


class AgainstAllWorlds(unittest.TestCase):
    def cases(self):
        chance = random.Random(7)
        for p, many in [(2, 60), (3, 60), (5, 20)]:
            for _ in range(many):
                names = chance.sample(NAMES, chance.randint(0, 4 if p < 5 else 3))
                told = [
                    (random_form(chance, p, names, 4), chance.randint(0, p - 1))
                    for _ in range(chance.randint(0, 4))
                ]
                if chance.random() < 0.5 and names:
                    world = {name: chance.randint(0, p - 1) for name in names}
                    told = [(f, number_in(p, f, world)) for f, _ in told]
                yield p, names, told, agreeing_plainly(p, names, told)

    def test_agreeing(self):
        counts = []
        for p, names, told, found in self.cases():
            self.assertEqual(agreeing(p, names, told), len(found))
            counts.append(len(found))
        self.assertIn(0, counts)
        self.assertIn(1, counts)

    def test_value_counts(self):
        for p, names, told, found in self.cases():
            for f in list(all_forms(p, names))[:40]:
                wanted = [0] * p
                for world in found:
                    wanted[number_in(p, f, world)] += 1
                self.assertEqual(value_counts(p, names, told, f), wanted)

    def test_one_world(self):
        for p, names, told, found in self.cases():
            world = one_world(p, names, told)
            if not found:
                self.assertIsNone(world)
                continue
            self.assertIn(dict(zip(names, world)), found)
            self.assertEqual(len(world), len(names))
            leads = [row[0][0] for row in Space.over(p, [f for f, _ in told])]
            self.assertTrue(all(n == 0 for name, n in zip(names, world) if name not in leads))
            self.assertTrue(all(0 <= n < p for n in world))


class EdgesOfWays(unittest.TestCase):
    def test_no_names(self):
        for p in PRIMES:
            self.assertEqual(agreeing(p, [], []), 1)
            self.assertEqual(one_world(p, [], []), [])
            self.assertEqual(value_counts(p, [], [], ()), [1] + [0] * (p - 1))
            self.assertEqual(agreeing(p, [], [((), 0)]), 1)
            self.assertEqual(agreeing(p, [], [((), 1)]), 0)
            self.assertIsNone(one_world(p, [], [((), p - 1)]))
            self.assertEqual(value_counts(p, [], [((), 1)], ()), [0] * p)

    def test_sixty_names(self):
        names = [f"n.{k}" for k in range(60)]
        self.assertEqual(agreeing(97, names, []), 97**60)
        self.assertEqual(agreeing(97, names, [(((n, 1),), 5) for n in names]), 1)
        chain = [(tuple(sorted([(a, 1), (b, 96)])), 1) for a, b in zip(names, names[1:])]
        self.assertEqual(agreeing(97, names, chain), 97)
        self.assertEqual(value_counts(97, names, chain, (("n.0", 1),)), [1] * 97)
        self.assertEqual(value_counts(97, names, chain, (("n.0", 1), ("n.59", 96))).index(97), 59)
        self.assertEqual(value_counts(2, names, [], (("n.7", 1),)), [2**59, 2**59])

    def test_dependent_and_repeated_forms(self):
        ab = (("a", 1), ("b", 1))
        self.assertEqual(agreeing(5, ["b", "a"], [(ab, 3), (ab, 3), ((("a", 2), ("b", 2)), 1)]), 5)
        self.assertEqual(agreeing(5, ["b", "a"], [(ab, 3), (ab, 4)]), 0)
        self.assertEqual(one_world(5, ["b", "a"], [(ab, 3)]), [0, 3])
        self.assertEqual(one_world(5, ["b", "a"], [(ab, 3), (A, 1)]), [2, 1])

    def test_unknown_names_are_refused_before_numbers(self):
        told = [((("a", 1),), 0), ((("b", 1), ("x", 1), ("y", 1)), 0), ((("u", 1),), 0)]
        names = ["b", "a"]
        torn = [(A, 0), (A, 1)]
        for call in [agreeing, one_world, lambda *parts: value_counts(*parts, (("c", 1),))]:
            check_raises(self, UnknownName, {"name": "x"}, lambda: call(5, names, torn + told))
        f = (("a", 1), ("c", 1), ("d", 1))
        check_raises(self, UnknownName, {"name": "c"}, lambda: value_counts(5, names, torn, f))
        check_raises(self, UnknownName, {"name": "a"}, lambda: agreeing(5, [], [((), 1), (A, 1)]))
        check_raises(self, UnknownName, {"name": "a~"}, lambda: one_world(5, names, [((("a~", 1),), 0)]))

    def test_bad_prime_goes_first(self):
        check_bad_primes(self, lambda p: agreeing(p, [], [(A, 0)]))
        check_bad_primes(self, lambda p: value_counts(p, [], [(A, 0)], A))
        check_bad_primes(self, lambda p: one_world(p, [], [(A, 0)]))
        check_bad_primes(self, lambda p: moved_world(p, {}, A))

    def test_arguments_stay_and_answers_are_new(self):
        names, told = ["b", "a"], [(A, 1), (B, 0)]
        for call in [agreeing, one_world, lambda *parts: value_counts(*parts, A)]:
            first, second = call(5, names, told), call(5, tuple(names), tuple(told))
            self.assertEqual(first, second)
            if isinstance(first, list):
                first.append(99)
                self.assertEqual(call(5, names, told), second)
        self.assertEqual((names, told), (["b", "a"], [(A, 1), (B, 0)]))


class MovedWorlds(unittest.TestCase):
    def test_moved_world(self):
        world = {"a": 4, "b": -1, "c": BIG}
        moved = moved_world(5, world, (("a", 3), ("b", 1)))
        self.assertEqual(moved, {"a": 2, "b": 0, "c": BIG % 5})
        self.assertEqual(world, {"a": 4, "b": -1, "c": BIG})
        self.assertEqual(moved_world(5, world, (("a", 3),), by=0), {"a": 4, "b": 4, "c": BIG % 5})
        self.assertEqual(moved_world(5, world, (("a", 3),), by=-2), {"a": 3, "b": 4, "c": BIG % 5})
        self.assertEqual(moved_world(5, world, (("a", 3),), by=BIG)["a"], (4 + 3 * BIG) % 5)
        self.assertEqual(moved_world(5, {}, ()), {})
        self.assertEqual(moved_world(5, {"a": 7}, ()), {"a": 2})

    def test_moved_world_is_new(self):
        world = {"a": 1}
        moved = moved_world(5, world, ())
        moved["a"] = 3
        self.assertEqual(world, {"a": 1})

    def test_missing_names_are_refused_whatever_by_is(self):
        shift = (("a", 1), ("b", 2), ("c", 1))
        for by in [0, 1, -1, 5]:
            check_raises(self, NoNumber, {"name": "b"}, lambda: moved_world(5, {"a": 1}, shift, by=by))
        check_raises(self, NoNumber, {"name": "a"}, lambda: moved_world(5, {}, shift))

    def test_the_blind_shift_cannot_be_told_by_the_space(self):
        chance = random.Random(8)
        for p in [2, 3, 97]:
            forms = [random_form(chance, p, NAMES, 3) for _ in range(2)]
            space = Space.over(p, forms)
            for name in NAMES:
                f = ((name, 1),)
                if f in space:
                    continue
                world = {other: chance.randint(0, p - 1) for other in NAMES}
                for by in [1, 2, -1]:
                    moved = moved_world(p, world, space.blind(f), by=by)
                    self.assertTrue(all(number_in(p, g, world) == number_in(p, g, moved) for g in space))
                    self.assertEqual((number_in(p, f, moved) - number_in(p, f, world) - by) % p, 0)


if __name__ == "__main__":
    unittest.main()
