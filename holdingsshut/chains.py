"""Chains of numbers by a table, and their stretch: the chain folded backwards."""

from holdingsshut.errors import BadTable
from holdingsshut.primes import lies_within, need_prime


def check_table(p, table, which):
    """The table as a tuple, or raise BadTable; any value may be handed in as the table."""
    need_prime(p)
    if not isinstance(table, (list, tuple)) or len(table) != p:
        raise BadTable(which)
    if not all([lies_within(number, 0, p - 1) for number in table]):
        raise BadTable(which)
    return tuple(table)


def chain(p, up, start, length):
    """The list of the start number and of `length` numbers behind it."""
    steps = check_table(p, up, "up")
    numbers = [start]
    for _ in range(length):
        numbers.append(steps[numbers[-1]])
    return numbers


def stretch(p, up, down, *, password, salt, length):
    """The stretch of a password with a salt."""
    forward = check_table(p, up, "up")
    back = check_table(p, down, "down")
    numbers = chain(p, forward, (password + salt) % p, length)
    total = 0
    for number in reversed(numbers[1:]):
        total = fold(p, back, total, number)
    return total


def fold(p, down, total, number):
    """What the stretch becomes when it reads one more number; nothing is checked."""
    return down[(total + number) % p]
