"""Point [21] and the interface of chains.py."""

import random
import unittest

from holdingsshut.chains import chain, check_table, stretch
from holdingsshut.errors import BadTable
from tests.helpers import PRIMES, check_bad_primes, check_raises

UP, DOWN = [1, 2, 3, 4, 0], [3, 1, 4, 0, 2]
BAD_TABLES = [
    [], [1, 2, 3, 4], [1, 2, 3, 4, 0, 0], [1, 2, 3, 4, 5], [1, 2, 3, 4, -1], [1, 2, 3, 4, True], [False, 2, 3, 4, 0],
    [1, 2, 3, 4, None], [1, 2, 3, 4, "0"], [1, 2, 3, 4, 0.0], [1, 2, [3], 4, 0], None, 5, True, "12340", b"\x01\x02\x03\x04\x00",
    {0: 1, 1: 2, 2: 3, 3: 4, 4: 0}, {0, 1, 2, 3, 4}, range(5), [1, 2, 3, 4, 10**39],
]


def chain_plainly(up, start, length):
    numbers = [start]
    while len(numbers) <= length:
        numbers.append(up[numbers[-1]])
    return numbers


def stretch_plainly(p, up, down, start, length):
    numbers, total = chain_plainly(up, start, length), 0
    for i in range(length, 0, -1):
        total = down[(total + numbers[i]) % p]
    return total


def random_tables(chance, p):
    return [chance.randrange(p) for _ in range(p)], [chance.randrange(p) for _ in range(p)]


class Tables(unittest.TestCase):
    def test_tables_are_returned_as_tuples(self):
        self.assertEqual(check_table(5, UP, "up"), (1, 2, 3, 4, 0))
        self.assertEqual(check_table(5, tuple(UP), "x"), (1, 2, 3, 4, 0))
        self.assertEqual(check_table(2, [1, 1], "x"), (1, 1))
        for p in PRIMES:
            self.assertEqual(check_table(p, list(range(p)), "x"), tuple(range(p)))

    def test_what_is_no_table_is_refused_by_its_name(self):
        for table in BAD_TABLES:
            for which in ["up", "down", "tags", "any word"]:
                check_raises(self, BadTable, {"which": which}, lambda: check_table(5, table, which))

    def test_bad_primes_go_first(self):
        check_bad_primes(self, lambda p: check_table(p, None, "up"))

    def test_the_table_stays_as_it_was(self):
        table = list(UP)
        kept = check_table(5, table, "up")
        table[0] = 3
        self.assertEqual(kept, (1, 2, 3, 4, 0))


class Chains(unittest.TestCase):
    def test_chain(self):
        self.assertEqual(chain(5, UP, 3, 4), [3, 4, 0, 1, 2])
        self.assertEqual(chain(5, DOWN, 2, 1), [2, 4])
        self.assertEqual(chain(5, UP, 2, 0), [2])
        self.assertEqual(chain(2, (0, 0), 1, 3), [1, 0, 0, 0])

    def test_long_chains(self):
        chance = random.Random(23)
        for p in [2, 5, 97]:
            up, _ = random_tables(chance, p)
            for length in [0, 1, 2, 119, 120]:
                start = chance.randrange(p)
                numbers = chain(p, up, start, length)
                self.assertEqual(numbers, chain_plainly(up, start, length))
                self.assertEqual(len(numbers), length + 1)

    def test_refusals(self):
        check_bad_primes(self, lambda p: chain(p, None, 0, 1))
        for table in BAD_TABLES:
            check_raises(self, BadTable, {"which": "up"}, lambda: chain(5, table, 0, 0))

    def test_answers_are_new(self):
        up = list(UP)
        chain(5, up, 0, 3).clear()
        self.assertEqual(chain(5, up, 0, 3), [0, 1, 2, 3])
        self.assertEqual(up, UP)


class Stretches(unittest.TestCase):
    def test_small_stretches(self):
        # From 3 the chain is 4, 0: backwards down[0] = 3, then down[(3 + 4) modulo 5] = 4.
        self.assertEqual(stretch(5, UP, DOWN, password=2, salt=1, length=2), 4)
        self.assertEqual(stretch(5, UP, DOWN, password=4, salt=4, length=2), 4)
        self.assertEqual(stretch(5, UP, DOWN, password=2, salt=1, length=1), 2)
        self.assertEqual(stretch(2, [1, 0], [1, 0], password=1, salt=1, length=1), 0)

    def test_stretch_agrees_with_the_document(self):
        chance = random.Random(24)
        for p in [2, 3, 5, 97]:
            for length in [1, 2, 3, 60, 119, 120]:
                up, down = random_tables(chance, p)
                password, salt = chance.randrange(p), chance.randrange(p)
                wanted = stretch_plainly(p, up, down, (password + salt) % p, length)
                self.assertEqual(stretch(p, up, down, password=password, salt=salt, length=length), wanted)
                self.assertEqual(stretch(p, tuple(up), tuple(down), password=salt, salt=password, length=length), wanted)

    def test_refusals_stand_in_the_order_of_the_signature(self):
        check_bad_primes(self, lambda p: stretch(p, None, None, password=0, salt=0, length=1))
        for table in BAD_TABLES:
            check_raises(self, BadTable, {"which": "up"},
                         lambda: stretch(5, table, table, password=0, salt=0, length=1))
            check_raises(self, BadTable, {"which": "down"},
                         lambda: stretch(5, UP, table, password=0, salt=0, length=1))

    def test_tables_stay_as_they_were(self):
        up, down = list(UP), list(DOWN)
        stretch(5, up, down, password=1, salt=2, length=9)
        self.assertEqual((up, down), (UP, DOWN))


if __name__ == "__main__":
    unittest.main()
