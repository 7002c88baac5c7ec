"""Point [28] and the interface of leases.py."""

import itertools
import random
import unittest

from holdingsshut.errors import BadLease, BadName
from holdingsshut.leases import lease_keys, lease_rules, leased_times, time_key, time_slots
from tests.helpers import BIG, check_raises, closure_plainly
from tests.test_trees import BAD_PREFIXES, unit

WAYS = ["tree", "chains"]


def bits(depth, number):
    return "".join(str(number // 2**k % 2) for k in range(depth - 1, -1, -1))


def node(prefix, depth, number):
    return prefix + "." + bits(depth, number) if depth else prefix


def opened_plainly(rules, slots):
    """The slots that rules over units open, the given ones included."""
    known = set(slots)
    while True:
        more = {gives[0][0] for needs, gives in rules if all(need[0][0] in known for need in needs)} - known
        if not more:
            return known
        known |= more


class Slots(unittest.TestCase):
    def test_tree_slots(self):
        self.assertEqual(time_slots(0, "tree"), ["u"])
        self.assertEqual(time_slots(1, "tree", prefix="x"), ["x", "x.0", "x.1"])
        self.assertEqual(time_slots(2, "tree"), ["u", "u.0", "u.1", "u.00", "u.01", "u.10", "u.11"])
        for height in range(5):
            wanted = [node("v", depth, k) for depth in range(height + 1) for k in range(2**depth)]
            self.assertEqual(time_slots(height, "tree", prefix="v"), wanted)

    def test_chain_slots(self):
        self.assertEqual(time_slots(0, "chains"), ["u.f0", "u.g0", "u.k0"])
        self.assertEqual(time_slots(1, "chains", prefix="x"), ["x.f0", "x.f1", "x.g0", "x.g1", "x.k0", "x.k1"])
        for height in range(5):
            wanted = [f"u.{row}{t}" for row in "fgk" for t in range(2**height)]
            self.assertEqual(time_slots(height, "chains"), wanted)

    def test_keys_of_times(self):
        self.assertEqual((time_key(0, "tree", 0), time_key(0, "chains", 0)), ("u", "u.k0"))
        self.assertEqual(time_key(4, "tree", 10, prefix="w"), "w.1010")
        self.assertEqual(time_key(4, "chains", 15, prefix="w"), "w.k15")
        for height in range(5):
            for t in range(2**height):
                self.assertEqual(time_key(height, "tree", t), node("u", height, t))
                self.assertEqual(time_key(height, "chains", t), f"u.k{t}")

    def test_times_out_of_range(self):
        for way in WAYS:
            for height in range(5):
                for t in [-1, 2**height, 2**height + 1, BIG, -BIG]:
                    check_raises(self, BadLease, {"first": t, "last": t}, lambda: time_key(height, way, t))


class Rules(unittest.TestCase):
    def test_tree_rules(self):
        self.assertEqual(lease_rules(0, "tree"), [])
        self.assertEqual(lease_rules(1, "tree"), [((unit("u"),), unit("u.0")), ((unit("u"),), unit("u.1"))])
        for height in range(5):
            inner = [(depth, k) for depth in range(height) for k in range(2**depth)]
            wanted = [
                ((unit(node("v", depth, k)),), unit(node("v", depth + 1, 2 * k + side)))
                for depth, k in inner for side in [0, 1]
            ]
            self.assertEqual(lease_rules(height, "tree", prefix="v"), wanted)

    def test_chain_rules(self):
        self.assertEqual(lease_rules(0, "chains"), [((unit("u.f0"), unit("u.g0")), unit("u.k0"))])
        self.assertEqual(lease_rules(1, "chains", prefix="x"), [
            ((unit("x.f0"),), unit("x.f1")), ((unit("x.g1"),), unit("x.g0")),
            ((unit("x.f0"), unit("x.g0")), unit("x.k0")), ((unit("x.f1"), unit("x.g1")), unit("x.k1")),
        ])
        for height in range(5):
            n = 2**height
            wanted = [((unit(f"u.f{t}"),), unit(f"u.f{t + 1}")) for t in range(n - 1)]
            wanted += [((unit(f"u.g{t}"),), unit(f"u.g{t - 1}")) for t in range(n - 1, 0, -1)]
            wanted += [((unit(f"u.f{t}"), unit(f"u.g{t}")), unit(f"u.k{t}")) for t in range(n)]
            self.assertEqual(lease_rules(height, "chains"), wanted)


class Leases(unittest.TestCase):
    def test_keys_by_tree(self):
        self.assertEqual(lease_keys(3, "tree", 1, 6), ["u.001", "u.01", "u.10", "u.110"])
        self.assertEqual(lease_keys(2, "tree", 0, 3, prefix="x"), ["x"])
        self.assertEqual(lease_keys(2, "tree", 0, 1), ["u.0"])
        self.assertEqual(lease_keys(2, "tree", 1, 2), ["u.01", "u.10"])
        self.assertEqual(lease_keys(0, "tree", 0, 0), ["u"])

    def test_keys_by_chains(self):
        self.assertEqual(lease_keys(4, "chains", 3, 12), ["u.f3", "u.g12"])
        self.assertEqual(lease_keys(0, "chains", 0, 0, prefix="x"), ["x.f0", "x.g0"])
        self.assertEqual(lease_keys(2, "chains", 1, 1), ["u.f1", "u.g1"])

    def test_every_lease_opens_its_times_and_by_the_greatest_clean_nodes(self):
        for way in WAYS:
            for height in range(5):
                rules = lease_rules(height, way)
                for first, last in itertools.combinations_with_replacement(range(2**height), 2):
                    keys = lease_keys(height, way, first, last)
                    opened = opened_plainly(rules, keys)
                    times = [t for t in range(2**height) if time_key(height, way, t) in opened]
                    self.assertEqual(times, list(range(first, last + 1)))
                    self.assertEqual(leased_times(height, way, [(first, last)]), times)
                    if way == "tree":
                        nodes = [
                            (k * 2**(height - d), node("u", d, k)) for d in range(height + 1) for k in range(2**d)
                            if first <= k * 2**(height - d) and (k + 1) * 2**(height - d) - 1 <= last
                            and not (d and first <= k // 2 * 2**(height - d + 1)
                                     and (k // 2 + 1) * 2**(height - d + 1) - 1 <= last)
                        ]
                        self.assertEqual(keys, [key for _, key in sorted(nodes)])

    def test_several_leases(self):
        self.assertEqual(leased_times(2, "tree", [(0, 0), (2, 2)]), [0, 2])
        self.assertEqual(leased_times(2, "chains", [(0, 0), (2, 2)]), [0, 1, 2])
        self.assertEqual(leased_times(3, "tree", [(5, 6), (0, 1), (1, 2), (5, 5)]), [0, 1, 2, 5, 6])
        self.assertEqual(leased_times(3, "chains", [(5, 6), (1, 1)]), [1, 2, 3, 4, 5, 6])
        self.assertEqual(leased_times(3, "chains", ((4, 6), (1, 7))), [1, 2, 3, 4, 5, 6, 7])
        for way in WAYS:
            for height in range(5):
                self.assertEqual(leased_times(height, way, []), [])
                self.assertEqual(leased_times(height, way, [(0, 2**height - 1)]), list(range(2**height)))

    def test_random_leases_open_what_their_keys_open(self):
        chance = random.Random(33)
        for _ in range(200):
            height, way = chance.randint(0, 4), chance.choice(WAYS)
            leases = [tuple(sorted([chance.randrange(2**height), chance.randrange(2**height)]))
                      for _ in range(chance.randint(1, 4))]
            keys = [key for lease in leases for key in lease_keys(height, way, *lease)]
            opened = opened_plainly(lease_rules(height, way), keys)
            wanted = [t for t in range(2**height) if time_key(height, way, t) in opened]
            self.assertEqual(leased_times(height, way, leases), wanted)

    def test_rules_are_rules_of_the_closure(self):
        keys = lease_keys(2, "tree", 1, 3)
        known, _ = closure_plainly(2, [unit(key) for key in keys], lease_rules(2, "tree"))
        self.assertEqual([slot for slot in time_slots(2, "tree") if unit(slot) in known], ["u.1", "u.01", "u.10", "u.11"])

    def test_bad_leases(self):
        for way in WAYS:
            for height in range(5):
                n = 2**height
                for first, last in [
                    (-1, 0), (0, n), (n, n), (0, -1), (1, 0), (n - 1, n - 2), (-1, -1), (-2, n), (0, BIG), (-BIG, 0),
                ]:
                    told = {"first": first, "last": last}
                    check_raises(self, BadLease, told, lambda: lease_keys(height, way, first, last))
                    check_raises(self, BadLease, told, lambda: leased_times(height, way, [(0, 0), (first, last), (9, 3)]))

    def test_prefixes_go_first(self):
        for way in WAYS:
            for prefix in BAD_PREFIXES:
                for call in [
                    lambda: time_slots(2, way, prefix=prefix), lambda: lease_rules(2, way, prefix=prefix),
                    lambda: time_key(2, way, 9, prefix=prefix), lambda: lease_keys(2, way, 3, 1, prefix=prefix),
                ]:
                    check_raises(self, BadName, {"name": prefix}, call)

    def test_arguments_stay_and_answers_are_new(self):
        leases = [(2, 3), (0, 0)]
        for call in [
            lambda: time_slots(2, "tree"), lambda: lease_rules(2, "chains"), lambda: lease_keys(2, "tree", 0, 2),
            lambda: leased_times(2, "chains", leases), lambda: time_slots(2, "chains"), lambda: lease_rules(2, "tree"),
        ]:
            first = call()
            wanted = list(first)
            first.clear()
            self.assertEqual(call(), wanted)
        self.assertEqual(leases, [(2, 3), (0, 0)])


if __name__ == "__main__":
    unittest.main()
