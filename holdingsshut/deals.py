"""Deals: shares on numbers, what they bring together, and what they leave hidden."""

from holdingsshut.errors import FalseShare, NotHeld, Unfit
from holdingsshut.forms import need_plain, unit, value
from holdingsshut.formulas import lot_of
from holdingsshut.primes import need_prime
from holdingsshut.rows import rows_of
from holdingsshut.spaces import Space
from holdingsshut.ways import equation, settled, value_counts


def deal(p, rows, world):
    """The list of pairs (holder, number) of the rows in the world."""
    need_prime(p)
    return [(holder, value(p, form, world)) for holder, form in rows]


def join(p, rows, told, *, secret="s"):
    """The secret's number, from told pairs (row number, number)."""
    need_prime(p)
    need_plain(secret)
    space = Space(p)
    for at, (row, number) in enumerate(told):
        told_form = equation(p, rows[row][1], number)
        # What the pairs before it settle otherwise is left over as a number.
        if settled(space, told_form) not in (None, 0):
            raise FalseShare(at)
        space.add(told_form)
    answer = settled(space, unit(secret))
    if answer is None:
        raise Unfit(lot_of([rows[row][0] for row, _ in told]))
    return answer


def join_weights(p, rows, lot, *, secret="s"):
    """The multiples of the lot's accepted rows whose sum is the secret's unit."""
    need_prime(p)
    need_plain(secret)
    space = Space(p)
    accepted = []
    for number in rows_of(rows, lot):
        if space.add(rows[number][1]):
            accepted.append(number)
    try:
        mix = space.mix(unit(secret))
    except NotHeld:
        raise Unfit(lot_of(lot)) from None
    return tuple([(accepted[index], weight) for index, weight in mix])


def hidden(p, rows, lot, *, secret="s"):
    """The blind shift that moves the secret and no row of the lot."""
    need_prime(p)
    need_plain(secret)
    space = Space.over(p, [rows[number][1] for number in rows_of(rows, lot)])
    return space.blind(unit(secret))


def secret_counts(p, rows, masks, told, *, secret="s"):
    """For each number of the secret, how many worlds over the masks agree with what is told."""
    need_prime(p)
    need_plain(secret)
    told_forms = [(rows[row][1], number) for row, number in told]
    return value_counts(p, [secret] + list(masks), told_forms, unit(secret))
