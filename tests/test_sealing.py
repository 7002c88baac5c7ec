"""Points [55] and [21], and the interface of sealing.py."""

import itertools
import random
import unittest

from holdingsshut.errors import BadTable, WrongKey
from holdingsshut.sealing import Tables, seal, unseal
from tests.helpers import PRIMES, check_bad_primes, check_raises

UP, DOWN, PADS, TAGS = [1, 2, 3, 4, 0], [0, 1, 2, 3, 4], [3, 1, 4, 0, 2], [2, 0, 4, 1, 3]
BAD_TABLES = [
    None, 5, "01234", b"01234", {0: 1}, {0, 1, 2, 3, 4}, [], [0, 1, 2, 3], [0, 1, 2, 3, 4, 0], [0, 1, 2, 3, 5],
    [0, 1, 2, 3, -1],
    [0, 1, 2, 3, True], [0, 1, 2, 3, None], [0, 1, 2, 3, 4.0], [0, 1, 2, 3, "4"], (0, 1, 2, 3), range(5), [0, 1, 2, 3, [4]],
]


def random_tables(chance, p):
    tables = [[chance.randrange(p) for _ in range(p)] for _ in range(3)]
    return Tables(p, up=tables[0], down=tables[1], pads=tables[2], tags=chance.sample(range(p), p))


class MakingTables(unittest.TestCase):
    def test_attributes(self):
        up, tags = list(UP), list(TAGS)
        tables = Tables(5, up=up, down=tuple(DOWN), pads=PADS, tags=tags)
        up[0] = 9
        tags.clear()
        self.assertEqual((tables.p, tables.up, tables.down, tables.pads, tables.tags),
            (5, tuple(UP), tuple(DOWN), tuple(PADS), tuple(TAGS)))

    def test_numbers_may_repeat_but_in_tags(self):
        same = [2, 2, 2, 2, 2]
        self.assertEqual(Tables(5, up=same, down=same, pads=same, tags=TAGS).pads, tuple(same))
        for tags in [same, [0, 1, 2, 3, 3], [4, 4, 1, 2, 3]]:
            check_raises(self, BadTable, {"which": "tags"}, lambda: Tables(5, up=UP, down=DOWN, pads=PADS, tags=tags))

    def test_tables_that_are_wrong(self):
        good = {"up": UP, "down": DOWN, "pads": PADS, "tags": TAGS}
        names = list(good)
        for table in BAD_TABLES:
            for at, which in enumerate(names):
                check_raises(self, BadTable, {"which": which}, lambda: Tables(5, **{**good, which: table}))
                # With those behind it wrong, too, the first one counts.
                more = {name: None for name in names[at:]}
                check_raises(self, BadTable, {"which": which}, lambda: Tables(5, **{**good, **more, which: table}))
        for one, two in itertools.combinations(names, 2):
            check_raises(self, BadTable, {"which": one}, lambda: Tables(5, **{**good, one: [5] * 5, two: [0] * 4}))
        check_raises(self, BadTable, {"which": "pads"}, lambda: Tables(5, up=UP, down=DOWN, pads=[], tags=[1] * 5))

    def test_bad_primes(self):
        check_bad_primes(self, lambda p: Tables(p, up=None, down=None, pads=None, tags=None))
        check_bad_primes(self, Tables.plain)

    def test_plain_tables(self):
        for p in PRIMES:
            tables = Tables.plain(p)
            self.assertIsInstance(tables, Tables)
            for x in range(p):
                self.assertEqual(
                    (tables.up[x], tables.down[x], tables.pads[x], tables.tags[x]),
                    ((x + 1) % p, (2 * x + 1) % p, (3 * x + 1) % p, p - 1 - x))
            self.assertEqual([len(table) for table in [tables.up, tables.down, tables.pads, tables.tags]], [p] * 4)


class Sealing(unittest.TestCase):
    tables = Tables(5, up=UP, down=DOWN, pads=PADS, tags=TAGS)

    def test_example(self):
        self.assertEqual(seal(self.tables, [1, 4], 3), ((0, 3), 3))

    def test_written_out(self):
        self.assertEqual(seal(self.tables, [2], 4), ((4,), 3))
        self.assertEqual(seal(self.tables, (1, 1, 4, 0), 0), ((0, 0, 3, 2), (1 + 2 + 6 + 12) % 5))
        self.assertEqual(unseal(self.tables, [2], ((4,), 3)), 4)

    def test_boxes_open_with_their_keys_and_no_others(self):
        chance = random.Random(271)
        for p in [2, 3, 5, 97]:
            tables = random_tables(chance, p)
            for _ in range(150):
                keys = [chance.randrange(p) for _ in range(chance.randint(1, 4))]
                body = chance.randrange(p)
                box = seal(tables, keys, body)
                self.assertEqual(box[0], tuple(tables.tags[key] for key in keys))
                self.assertEqual(box[1], (body + sum((at + 1) * tables.pads[key] for at, key in enumerate(keys))) % p)
                self.assertEqual(unseal(tables, keys, box), body)
                self.assertEqual(unseal(tables, tuple(keys), box), body)
                other = [chance.choice([key, key, chance.randrange(p)]) for key in keys]
                if other != keys:
                    at = [one == two for one, two in zip(keys, other)].index(False)
                    check_raises(self, WrongKey, {"at": at}, lambda: unseal(tables, other, box))

    def test_one_key_too_few_and_too_many(self):
        box = seal(self.tables, [1, 4], 3)
        check_raises(self, WrongKey, {"at": 1}, lambda: unseal(self.tables, [1], box))
        check_raises(self, WrongKey, {"at": 2}, lambda: unseal(self.tables, [1, 4, 0], box))
        check_raises(self, WrongKey, {"at": 0}, lambda: unseal(self.tables, [2], box))
        check_raises(self, WrongKey, {"at": 1}, lambda: unseal(self.tables, [1, 3, 3], box))
        check_raises(self, WrongKey, {"at": 0}, lambda: unseal(self.tables, [0, 3, 3], box))

    def test_arguments_stay(self):
        keys = [1, 4]
        box = seal(self.tables, keys, 3)
        unseal(self.tables, keys, box)
        self.assertEqual((keys, box), ([1, 4], ((0, 3), 3)))
        self.assertIsInstance(box, tuple)
        self.assertIsInstance(box[0], tuple)


if __name__ == "__main__":
    unittest.main()
