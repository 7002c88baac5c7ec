"""Sealing: letters on numbers, which open with the right keys alone."""

from holdingsshut.chains import check_table
from holdingsshut.errors import BadTable, WrongKey
from holdingsshut.primes import need_prime


class Tables:
    """The four tables by which passwords are stretched and letters are sealed."""

    def __init__(self, p, *, up, down, pads, tags):
        self.p = need_prime(p)
        self.up = check_table(p, up, "up")
        self.down = check_table(p, down, "down")
        self.pads = check_table(p, pads, "pads")
        self.tags = check_table(p, tags, "tags")
        if len(set(self.tags)) != p:
            raise BadTable("tags")

    @classmethod
    def plain(cls, p):
        """Plain tables, for examples."""
        numbers = list(range(need_prime(p)))
        return cls(
            p, up=[(x + 1) % p for x in numbers], down=[(2 * x + 1) % p for x in numbers],
            pads=[(3 * x + 1) % p for x in numbers], tags=[p - 1 - x for x in numbers],
        )


def seal(tables, keys, body):
    """The box (tags, sealed) that the keys open and that holds the body."""
    return tuple([tables.tags[key] for key in keys]), (body + _pad(tables, keys)) % tables.p


def unseal(tables, keys, box):
    """The body of the box; WrongKey for the first key that does not fit."""
    tags, sealed = box
    for at, (key, tag) in enumerate(zip(keys, tags)):
        if tables.tags[key] != tag:
            raise WrongKey(at)
    if len(keys) != len(tags):
        raise WrongKey(min(len(keys), len(tags)))
    return (sealed - _pad(tables, keys)) % tables.p


def _pad(tables, keys):
    """What the keys add to a body; the place of a key counts."""
    return sum([(at + 1) * tables.pads[key] for at, key in enumerate(keys)])
