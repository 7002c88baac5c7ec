"""Integers, primes and binomial numbers: the ground of all arithmetic."""

from holdingsshut.errors import BadPrime, NoInverse

GREATEST_PRIME = 97


def is_whole(value):
    """True for an integer; True and False are none."""
    return isinstance(value, int) and not isinstance(value, bool)


def lies_within(value, low, high):
    """True for an integer from low to high."""
    return is_whole(value) and low <= value <= high


def is_prime(n):
    """True if the integer n is a prime."""
    if n < 2:
        return False
    divisor = 2
    while divisor * divisor <= n:
        if n % divisor == 0:
            return False
        divisor += 1
    return True


def need_prime(p):
    """Return p, or raise BadPrime unless it is a prime from 2 to 97."""
    if not lies_within(p, 2, GREATEST_PRIME) or not is_prime(p):
        raise BadPrime(p)
    return p


def inverse(p, a):
    """The number whose product with a is 1 modulo p."""
    need_prime(p)
    if a % p == 0:
        raise NoInverse(a)
    # a to the power p - 1 is 1 modulo a prime, so one factor less is the inverse.
    product = 1
    for _ in range(p - 2):
        product = product * a % p
    return product


def choose(n, k):
    """The binomial number; 0 if k is out of range."""
    if k < 0 or k > n:
        return 0
    many = 1
    for taken in range(min(k, n - k)):
        # The product of consecutive integers comes first, so no rest is lost.
        many = many * (n - taken) // (taken + 1)
    return many
