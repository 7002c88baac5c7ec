"""Points [4] and [7] and the interface of primes.py."""

import math
import unittest

from holdingsshut.errors import BadPrime, NoInverse
from holdingsshut.primes import choose, inverse, is_prime, need_prime
from tests.helpers import BAD_PRIMES, BIG, PRIMES, check_bad_primes, check_raises


class Primes(unittest.TestCase):
    def test_is_prime_agrees_with_a_sieve(self):
        most = 10000
        prime = [n >= 2 for n in range(most + 1)]
        for n in range(2, 101):
            for multiple in range(n * n, most + 1, n):
                prime[multiple] = False
        for n in range(most + 1):
            self.assertIs(is_prime(n), prime[n], n)

    def test_is_prime_of_integers_below_two(self):
        for n in [1, 0, -1, -2, -3, -5, -97, -9973, -BIG]:
            self.assertIs(is_prime(n), False, n)

    def test_need_prime_returns_each_prime_from_2_to_97(self):
        self.assertEqual([p for p in PRIMES if need_prime(p) == p], PRIMES)
        self.assertEqual(len(PRIMES), 25)

    def test_need_prime_refuses_every_other_integer(self):
        for n in range(-120, 300):
            if n not in PRIMES:
                check_raises(self, BadPrime, {"value": n}, lambda: need_prime(n))

    def test_need_prime_refuses_other_values(self):
        check_bad_primes(self, need_prime)
        self.assertIn(True, BAD_PRIMES)


class Inverses(unittest.TestCase):
    def test_inverse_for_all_primes_and_numbers(self):
        for p in PRIMES:
            for a in range(1, p):
                number = inverse(p, a)
                self.assertTrue(1 <= number <= p - 1)
                self.assertEqual(number * a % p, 1)

    def test_inverse_of_integers_of_any_sign_and_size(self):
        for p in PRIMES:
            for a in [-1, -2 * p - 1, p + 1, BIG, -BIG, 10**40 - 1]:
                if a % p:
                    number = inverse(p, a)
                    self.assertTrue(1 <= number <= p - 1)
                    self.assertEqual(number * a % p, 1)

    def test_multiples_of_p_have_no_inverse(self):
        for p in PRIMES:
            for a in [0, p, -p, 5 * p, -7 * p, p * 10**37]:
                check_raises(self, NoInverse, {"value": a}, lambda: inverse(p, a))

    def test_bad_prime_goes_first(self):
        check_bad_primes(self, lambda p: inverse(p, 0))
        check_bad_primes(self, lambda p: inverse(p, 3))


class Binomials(unittest.TestCase):
    def test_choose_agrees_with_the_definition(self):
        for n in list(range(60)) + [100, 239, 240, 399, 400]:
            for k in range(n + 1):
                self.assertEqual(choose(n, k), math.comb(n, k), (n, k))

    def test_choose_out_of_range_is_zero(self):
        for n in [0, 1, 7, 400]:
            for k in [-1, -2, -BIG, n + 1, n + 2, BIG]:
                self.assertEqual(choose(n, k), 0, (n, k))

    def test_choose_returns_integers(self):
        self.assertIsInstance(choose(10, 3), int)
        self.assertEqual((choose(0, 0), choose(5, 0), choose(5, 5)), (1, 1, 1))


if __name__ == "__main__":
    unittest.main()
