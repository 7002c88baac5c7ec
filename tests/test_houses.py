"""Points [40], [17], [20], [26], [27] and [28] and the interface of houses.py."""

import itertools
import random
import unittest

from holdingsshut.errors import (
    BadGate, BadLease, BadLock, BadTree, FieldTooSmall, Stranger, TooBig, TwiceNamed, UnknownName,
)
from holdingsshut.houses import lease_house, lock_house, mend_house, refresh_house, tree_house
from holdingsshut.leases import lease_keys, lease_rules, leased_times, time_key, time_slots
from holdingsshut.plans import Deed, Plan
from holdingsshut.renewed import difference_rows
from holdingsshut.rows import formula_rows
from holdingsshut.trees import above, leaves, nodes, tree_letters
from tests.helpers import check_bad_primes, check_raises, random_formula
from tests.test_kits import BAD_FORMULAS
from tests.test_trees import random_trees

FIELDS = ["name", "when", "unless", "sets", "clears", "renews", "letters", "tells", "hands"]
TWO = (2, ("a", "b"))


def e(name):
    return ((name, 1),)


def letter(gives, *needs, heard=True):
    return tuple(e(need) for need in needs), gives, heard


def any_plainly(names):
    return None if not names else names[0] if len(names) == 1 else (1, tuple(names))


def over_marks(formula):
    if formula is None:
        return None
    return "o." + formula if isinstance(formula, str) else (formula[0], tuple(over_marks(x) for x in formula[1]))


class Houses(unittest.TestCase):
    def check(self, plan, wanted):
        self.assertIsInstance(plan, Plan)
        for name in ["p", "marks", "devices", "locks", "standing", "roads", "promises", "slots"]:
            self.assertEqual(getattr(plan, name), getattr(wanted, name), name)
        self.assertEqual(len(plan.deeds), len(wanted.deeds))
        for one, two in zip((plan.start,) + plan.deeds, (wanted.start,) + wanted.deeds):
            for field in FIELDS:
                self.assertEqual(getattr(one, field), getattr(two, field), (two.name, field))


class MendHouse(Houses):
    def test_written_out(self):
        plan = mend_house(5, ["b", "a"], (2, ("a", "b")), road="a", guard=(2, ("b", "a")))
        letters = [letter(e("s.1"), "k.a"), letter((("s", 1), ("s.1", 4)), "k.b")]
        self.check(plan, Plan(
            5, marks=["o.b", "o.a"], devices=[["b", [e("k.b")], "o.b"], ["a", [e("k.a")], "o.a"]],
            roads=[["s", "o.a"]], promises=[["s", (2, ("a", "b")), None]],
            start=Deed("start", renews=["k.b", "k.a", "s.1", "s"], letters=letters),
            deeds=[
                Deed("take.b", unless=(1, ("o.b", (2, ("o.b", "o.a")))), sets=["o.b"], tells=[e("k.b")]),
                Deed("take.a", unless=(1, ("o.a", (2, ("o.b", "o.a")))), sets=["o.a"], tells=[e("k.a")]),
                Deed("mend", clears=["o.b", "o.a"], renews=["k.b", "k.a", "s.1"], letters=letters, hands=["b", "a"]),
            ],
        ))

    def wanted(self, p, devices, formula, road=None, guard=None, keys_new=True, masks_new=True, secret_new=False):
        rows, masks = formula_rows(p, formula)
        keys, outs = ["k." + d for d in devices], ["o." + d for d in devices]
        letters = [((e("k." + holder),), form, True) for holder, form in rows]
        renews = keys * keys_new + list(masks) * masks_new + ["s"] * secret_new
        takes = [
            Deed("take." + d, sets=["o." + d], tells=[e("k." + d)],
                 unless="o." + d if guard is None else (1, ("o." + d, over_marks(guard)))) for d in devices
        ]
        return Plan(
            p, marks=outs, devices=[(d, [e("k." + d)], "o." + d) for d in devices], roads=[("s", over_marks(road))],
            promises=[("s", formula, None)], start=Deed("start", renews=keys + list(masks) + ["s"], letters=letters),
            deeds=takes + [Deed("mend", clears=outs, renews=renews, hands=devices,
                                letters=letters if keys_new or masks_new or secret_new else [])],
        )

    def test_each_flag_with_and_without_road_and_guard(self):
        chance = random.Random(101)
        flags = ["keys_new", "masks_new", "secret_new"]
        for values in itertools.product([True, False], repeat=3):
            for has_road, has_guard in itertools.product([True, False], repeat=2):
                devices = chance.sample(list("abcdef"), chance.randint(1, 6))
                told = dict(zip(flags, values))
                formula = random_formula(chance, devices, 2)
                told["road"] = random_formula(chance, devices, 2) if has_road else None
                told["guard"] = random_formula(chance, devices, 2) if has_guard else None
                self.check(mend_house(7, devices, formula, **told), self.wanted(7, devices, formula, **told))

    def test_defaults(self):
        self.check(mend_house(5, ["a", "b"], TWO), self.wanted(5, ["a", "b"], TWO))
        mend = mend_house(5, ("a", "b"), TWO).deeds[-1]
        self.assertEqual((mend.name, mend.renews, len(mend.letters)), ("mend", ("k.a", "k.b", "s.1"), 2))

    def test_nothing_renewed_and_nothing_posted(self):
        mend = mend_house(5, ["a"], "a", keys_new=False, masks_new=False).deeds[-1]
        self.assertEqual((mend.renews, mend.letters, mend.clears, mend.hands), ((), (), ("o.a",), ("a",)))
        # Without masks nothing is renewed by masks_new alone, but the letters are posted again.
        mend = mend_house(5, ["a"], "a", keys_new=False).deeds[-1]
        self.assertEqual((mend.renews, len(mend.letters)), ((), 1))

    def test_devices_that_the_formula_lacks(self):
        plan = mend_house(5, ["c", "a", "b", "x"], TWO)
        self.assertEqual(plan.slots, ("k.c", "k.a", "k.b", "k.x", "s.1", "s"))
        self.assertEqual(len(plan.start.letters), 2)

    def test_refusals(self):
        three = (2, ("a", "b", "c"))
        check_bad_primes(self, lambda p: mend_house(p, ["a"], None, road=5, guard=5))
        for formula, part in BAD_FORMULAS + [(None, None)]:
            check_raises(self, BadGate, {"part": part}, lambda: mend_house(2, ["a"], formula, road="R", guard="G"))
            if formula is not None:
                check_raises(self, BadGate, {"part": part}, lambda: mend_house(2, list("abc"), three, road=formula, guard="G"))
                check_raises(self, BadGate, {"part": part}, lambda: mend_house(2, list("abc"), three, guard=formula))
        check_raises(self, FieldTooSmall, {"places": 3}, lambda: mend_house(3, list("abc"), three))

    def test_what_the_plan_refuses_comes_last(self):
        deep = "a"
        for _ in range(6):
            deep = (1, (deep,))
        check_raises(self, BadGate, {"part": (1, ("o.a",))}, lambda: mend_house(5, ["a"], "a", guard=deep))
        check_raises(self, FieldTooSmall, {"places": 3}, lambda: mend_house(3, list("abc"), (2, ("a", "b", "c")), guard=deep))
        self.assertIsInstance(mend_house(5, ["a"], "a", road=deep), Plan)
        wide = (60, ("a",) * 60)
        check_raises(self, TooBig, {"what": "slots"}, lambda: mend_house(5, ["a"], wide))
        check_raises(self, TooBig, {"what": "letters"}, lambda: mend_house(5, ["a"], (1, ((1, ("a",) * 41), (1, ("a",) * 41)))))
        check_raises(self, TooBig, {"what": "letters"}, lambda: mend_house(5, ["a"], (1, ((1, ("a",) * 80), "a"))))
        self.assertIsInstance(mend_house(5, ["a"], (1, ("a",) * 80)), Plan)

    def test_arguments_stay(self):
        devices = ["a", "b"]
        first, second = mend_house(5, devices, TWO), mend_house(5, devices, TWO)
        self.check(first, second)
        devices.append("c")
        self.assertEqual(first.deeds[-1].hands, ("a", "b"))


class RefreshHouse(Houses):
    def test_written_out(self):
        plan = refresh_house(5, ["a", "b"], TWO, road=TWO, quiet=False)
        row_b = (("s", 1), ("s.1", 4))
        self.check(plan, Plan(
            5, marks=["o.a", "o.b", "due"], devices=[["a", [e("k.a"), e("s.1")], "o.a"], ["b", [e("k.b"), row_b], "o.b"]],
            roads=[["s", (2, ("o.a", "o.b"))]], promises=[["s", TWO, None]],
            start=Deed("start", renews=["k.a", "k.b", "s.1", "s"]),
            deeds=[
                Deed("take.a", unless=(1, ("o.a", "due")), sets=["o.a"], tells=[e("k.a"), e("s.1")]),
                Deed("take.b", unless=(1, ("o.b", "due")), sets=["o.b"], tells=[e("k.b"), row_b]),
                Deed("found", when=(1, ("o.a", "o.b")), clears=["o.a", "o.b"], sets=["due"], hands=["a", "b"]),
                Deed("refresh", unless=(1, ("o.a", "o.b")), clears=["due"], renews=["s.1"], letters=[
                    letter((("s.1", 1), ("s.1~", 4)), "k.a"), letter((("s.1", 4), ("s.1~", 1)), "k.b"),
                ]),
            ],
        ))

    def wanted(self, p, devices, formula, road=None, quiet=True, strict=True):
        rows, masks = formula_rows(p, formula)
        outs = ["o." + d for d in devices]
        drawers = {d: [e("k." + d)] + [form for holder, form in rows if holder == d] for d in devices}
        letters = [((e("k." + holder),), form, not quiet) for holder, form in difference_rows(p, rows, masks)]
        takes = [
            Deed("take." + d, sets=["o." + d], tells=drawers[d], unless=(1, ("o." + d, "due")) if strict else "o." + d)
            for d in devices
        ]
        return Plan(
            p, marks=outs + ["due"], devices=[(d, drawers[d], "o." + d) for d in devices], roads=[("s", over_marks(road))],
            promises=[("s", formula, None)],
            start=Deed("start", renews=["k." + d for d in devices] + list(masks) + ["s"]),
            deeds=takes + [
                Deed("found", when=any_plainly(outs), clears=outs, sets=["due"], hands=devices),
                Deed("refresh", unless=any_plainly(outs), clears=["due"], renews=masks, letters=letters),
            ],
        )

    def test_each_flag_with_and_without_road(self):
        chance = random.Random(102)
        for quiet, strict, has_road in itertools.product([True, False], repeat=3):
            for _ in range(3):
                devices = chance.sample(list("abcdef"), chance.randint(1, 6))
                told = {"quiet": quiet, "strict": strict, "road": random_formula(chance, devices, 2) if has_road else None}
                formula = random_formula(chance, devices, 2)
                self.check(refresh_house(11, devices, formula, **told), self.wanted(11, devices, formula, **told))

    def test_defaults(self):
        self.check(refresh_house(5, ["a", "b"], TWO), self.wanted(5, ["a", "b"], TWO))
        self.assertEqual([heard for _, _, heard in refresh_house(5, ["a", "b"], TWO).deeds[-1].letters], [False, False])

    def test_rows_without_masks_have_zero_differences(self):
        plan = refresh_house(5, ["a"], "a", quiet=False)
        self.assertEqual(plan.deeds[-1].letters, (((e("k.a"),), (), True),))
        self.assertEqual(plan.deeds[-1].renews, ())
        self.assertEqual((plan.deeds[1].when, plan.deeds[2].unless), ("o.a", "o.a"))

    def test_a_device_with_several_rows_and_one_with_none(self):
        plan = refresh_house(5, ["a", "b", "c"], (2, ("a", "b", "a")))
        rows, _ = formula_rows(5, (2, ("a", "b", "a")))
        self.assertEqual(plan.devices[0][1], (e("k.a"), rows[0][1], rows[2][1]))
        self.assertEqual(plan.devices[2][1], (e("k.c"),))
        self.assertEqual(plan.deeds[0].tells, plan.devices[0][1])

    def test_refusals(self):
        three = (2, ("a", "b", "c"))
        check_bad_primes(self, lambda p: refresh_house(p, ["a"], None, road=5))
        for formula, part in BAD_FORMULAS + [(None, None)]:
            check_raises(self, BadGate, {"part": part}, lambda: refresh_house(2, ["a"], formula, road="R"))
            if formula is not None:
                check_raises(self, BadGate, {"part": part}, lambda: refresh_house(2, list("abc"), three, road=formula))
        check_raises(self, FieldTooSmall, {"places": 3}, lambda: refresh_house(2, list("abc"), three))
        check_raises(self, TooBig, {"what": "drawer"}, lambda: refresh_house(5, ["a"], (1, ("a",) * 24)))
        self.assertIsInstance(refresh_house(5, ["a"], (1, ("a",) * 23)), Plan)


class TreeHouse(Houses):
    def test_written_out(self):
        plan = tree_house(5, ("a", ("b", "c")), kept=[("c", "t"), ("a", "s")])
        top = [letter(e("t"), "k.a"), letter(e("t"), "t.1")]
        low = [letter(e("t.1"), "k.b"), letter(e("t.1"), "k.c")]
        last = letter(e("s"), "t")
        outs = (1, ("o.a", "o.b", "o.c"))
        self.check(plan, Plan(
            5, marks=["o.a", "o.b", "o.c"], devices=[[d, [e("k." + d)], "o." + d] for d in "abc"],
            roads=[["s", outs]], promises=[["s", (1, ("a", "b", "c")), None]],
            start=Deed("start", renews=["k.a", "k.b", "k.c", "t", "t.1", "s"], letters=top + low + [last]),
            deeds=[Deed("take." + d, unless=outs, sets=["o." + d], tells=[e("k." + d)]) for d in "abc"] + [
                Deed("mend.a", when="o.a", clears=["o.a"], renews=["k.a", "t"], letters=top + [last], hands=["a"]),
                Deed("mend.b", when="o.b", clears=["o.b"], renews=["k.b", "t", "t.1", "s"], letters=top + low + [last], hands=["b"]),
                Deed("mend.c", when="o.c", clears=["o.c"], renews=["k.c", "t.1", "s"], letters=top + low + [last], hands=["c"]),
            ],
        ))

    def wanted(self, p, tree, kept=()):
        devices = leaves(tree)
        outs = ["o." + d for d in devices]
        last = ((e("t"),), e("s"), True)
        deeds = [Deed("take." + d, unless=any_plainly(outs), sets=["o." + d], tells=[e("k." + d)]) for d in devices]
        for d in devices:
            up = above(tree, d)
            letters = [
                ((e(child),), e(key), True) for over in up for key, children, _ in nodes(tree) if key == over for child in children
            ]
            deeds.append(Deed(
                "mend." + d, when="o." + d, clears=["o." + d], letters=letters + [last], hands=[d],
                renews=[slot for slot in ["k." + d] + up + ["s"] if (d, slot) not in kept],
            ))
        letters = [(needs, gives, True) for needs, gives in tree_letters(tree)] + [last]
        slots = ["k." + d for d in devices] + [key for key, _, _ in nodes(tree)] + ["s"]
        return Plan(
            p, marks=outs, devices=[(d, [e("k." + d)], "o." + d) for d in devices], roads=[("s", any_plainly(outs))],
            promises=[("s", any_plainly(devices), None)], start=Deed("start", renews=slots, letters=letters), deeds=deeds,
        )

    def test_random_trees_with_and_without_kept_slots(self):
        chance = random.Random(103)
        for tree in random_trees(104, 60):
            devices = leaves(tree)
            if len(devices) <= 12:
                kept = [(d, chance.choice(["k." + d, "s"] + above(tree, d))) for d in devices if chance.random() < 0.4]
                chance.shuffle(kept)
                self.check(tree_house(5, tree), self.wanted(5, tree))
                self.check(tree_house(5, tree, kept=kept), self.wanted(5, tree, kept))
                self.check(tree_house(5, tree, kept=tuple(kept)), self.wanted(5, tree, kept))

    def test_bad_pairs_of_what_is_kept(self):
        tree = ("a", ("b", "c"))
        for kept, error, name in [
            ([("d", "x")], Stranger, "d"), ([("t", "t")], Stranger, "t"), ([("k.a", "k.a")], Stranger, "k.a"),
            ([("a", "t.1")], UnknownName, "t.1"), ([("a", "k.b")], UnknownName, "k.b"), ([("a", "x")], UnknownName, "x"),
            ([("a", "o.a")], UnknownName, "o.a"), ([("a", "k.a"), ("a", "x")], TwiceNamed, "a"), ([("a", "t"), ("a", "t")], TwiceNamed, "a"),
            ([("b", "t"), ("a", "x"), ("d", "t")], UnknownName, "x"), ([("b", "t"), ("d", "x"), ("b", "t")], Stranger, "d"),
            ([("b", "t"), ("b", "t"), ("a", "x")], TwiceNamed, "b"),
        ]:
            check_raises(self, error, {"name": name}, lambda: tree_house(5, tree, kept=kept))

    def test_refusals(self):
        check_bad_primes(self, lambda p: tree_house(p, "a", kept=[("d", "x")]))
        for tree, part in [("a", "a"), (("a",), ("a",)), (["a", "b"], ["a", "b"]), (("a", "a"), "a"), (("a", "B"), "B")]:
            check_raises(self, BadTree, {"part": part}, lambda: tree_house(5, tree, kept=[("d", "x")]))

    def test_trees_that_the_plan_refuses(self):
        twelve = (tuple("abcdef"), tuple("ghijkl"))
        self.assertEqual(len(tree_house(5, twelve).deeds), 24)
        check_raises(self, TooBig, {"what": "marks"}, lambda: tree_house(5, (tuple("abcdef"), tuple("ghijkl"), "m")))
        check_raises(self, UnknownName, {"name": "x"}, lambda: tree_house(5, twelve + ("m",), kept=[("m", "x")]))


class LeaseHouse(Houses):
    def test_written_out(self):
        plan = lease_house(5, 1, "chains", [(1, 1), (1, 1)])
        f0, f1, g0, g1, k0, k1 = [e("u." + x) for x in ["f0", "f1", "g0", "g1", "k0", "k1"]]
        self.check(plan, Plan(
            5, marks=["o.v"], devices=[["v", [e("k.v")], "o.v"]],
            standing=[((f0,), f1), ((g1,), g0), ((f0, g0), k0), ((f1, g1), k1)],
            roads=[["m.0", None], ["m.1", "o.v"]], promises=[["m.1", "v", None]],
            start=Deed(
                "start", renews=["k.v", "u.f0", "u.f1", "u.g0", "u.g1", "u.k0", "u.k1", "m.0", "m.1"],
                letters=[letter(e("m.0"), "u.k0"), letter(e("m.1"), "u.k1")] + [letter(f1, "k.v"), letter(g1, "k.v")] * 2,
            ),
            deeds=[Deed("take.v", unless="o.v", sets=["o.v"], tells=[e("k.v")])],
        ))

    def test_tree_written_out(self):
        plan = lease_house(3, 0, "tree", [(0, 0)])
        self.check(plan, Plan(
            3, marks=["o.v"], devices=[["v", [e("k.v")], "o.v"]], roads=[["m.0", "o.v"]], promises=[["m.0", "v", None]],
            start=Deed("start", renews=["k.v", "u", "m.0"], letters=[letter(e("m.0"), "u"), letter(e("u"), "k.v")]),
            deeds=[Deed("take.v", unless="o.v", sets=["o.v"], tells=[e("k.v")])],
        ))

    def wanted(self, p, height, way, leases):
        times = range(2**height)
        letters = [((e(time_key(height, way, t)),), e(f"m.{t}"), True) for t in times]
        letters += [((e("k.v"),), e(key), True) for first, last in leases for key in lease_keys(height, way, first, last)]
        leased = [t for t in times if any(first <= t <= last for first, last in leases)]
        return Plan(
            p, marks=["o.v"], devices=[("v", [e("k.v")], "o.v")], standing=lease_rules(height, way),
            roads=[(f"m.{t}", "o.v" if t in leased else None) for t in times],
            promises=[(f"m.{t}", "v", None) for t in leased],
            start=Deed("start", renews=["k.v"] + time_slots(height, way) + [f"m.{t}" for t in times], letters=letters),
            deeds=[Deed("take.v", unless="o.v", sets=["o.v"], tells=[e("k.v")])],
        )

    def test_random_leases(self):
        chance = random.Random(105)
        for height in range(5):
            for way in ["tree", "chains"]:
                if (height, way) == (4, "chains"):
                    continue
                for many in [0, 1, 2, 3]:
                    leases = [tuple(sorted(chance.choices(range(2**height), k=2))) for _ in range(many)]
                    self.check(lease_house(5, height, way, leases), self.wanted(5, height, way, leases))

    def test_leases_that_do_not_cover_all_times(self):
        plan = lease_house(5, 2, "chains", [(0, 0), (2, 2)])
        self.assertEqual(plan.roads, (("m.0", "o.v"), ("m.1", None), ("m.2", "o.v"), ("m.3", None)))
        self.assertEqual([slot for slot, _, _ in plan.promises], ["m.0", "m.2"])
        self.assertEqual(leased_times(2, "chains", [(0, 0), (2, 2)]), [0, 1, 2])

    def test_refusals(self):
        check_bad_primes(self, lambda p: lease_house(p, 2, "tree", [(3, 4)]))
        for way in ["tree", "chains"]:
            for leases, told in [([(0, 1), (2, 1), (4, 4)], (2, 1)), ([(-1, 0)], (-1, 0)), ([(0, 4), (1, 0)], (0, 4))]:
                check_raises(self, BadLease, {"first": told[0], "last": told[1]}, lambda: lease_house(5, 2, way, leases))

    def test_height_four_by_chains_is_refused_by_the_plan(self):
        for leases in [[], [(0, 15)]]:
            check_raises(self, TooBig, {"what": "slots"}, lambda: lease_house(5, 4, "chains", leases))
        check_raises(self, BadLease, {"first": 0, "last": 16}, lambda: lease_house(5, 4, "chains", [(0, 16)]))

    def test_many_leases(self):
        self.assertIsInstance(lease_house(5, 0, "tree", [(0, 0)] * 79), Plan)
        check_raises(self, TooBig, {"what": "letters"}, lambda: lease_house(5, 0, "tree", [(0, 0)] * 80))


class LockHouse(Houses):
    def test_written_out(self):
        locks = [("b", 0, 4, (2, 3)), ["a", 3, 120, [0]]]
        plan = lock_house(5, ["a", "b", "c"], TWO, locks)
        self.check(plan, Plan(
            5, devices=[[d, [e("k." + d)], None] for d in "abc"], locks=[("w.b", 0, 4, (2, 3)), ("w.a", 3, 120, (0,))],
            roads=[["s", None]], promises=[["s", TWO, None]],
            start=Deed("start", renews=["k.a", "k.b", "k.c", "s.1", "s", "w.b", "w.a"], letters=[
                letter(e("s.1"), "k.a"), letter((("s", 1), ("s.1", 4)), "k.b"), letter(e("k.b"), "w.b"), letter(e("k.a"), "w.a"),
            ]),
        ))
        self.assertEqual((plan.deeds, plan.marks), ((), ()))

    def test_no_locks(self):
        plan = lock_house(5, ["a"], "a", [])
        self.assertEqual((plan.locks, plan.slots, len(plan.start.letters)), ((), ("k.a", "s"), 1))

    def test_refusals(self):
        three = (2, ("a", "b", "c"))
        check_bad_primes(self, lambda p: lock_house(p, ["a"], None, []))
        for formula, part in BAD_FORMULAS + [(None, None)]:
            check_raises(self, BadGate, {"part": part}, lambda: lock_house(2, ["a"], formula, [("a", 9, 1, (1,))]))
        check_raises(self, FieldTooSmall, {"places": 3}, lambda: lock_house(3, list("abc"), three, [("a", 9, 1, (1,))]))
        check_raises(self, BadLock, {"slot": "w.b"}, lambda: lock_house(5, ["a", "b"], TWO, [("a", 0, 1, (1,)), ("b", 5, 1, (1,))]))
        check_raises(self, TwiceNamed, {"name": "w.a"}, lambda: lock_house(5, ["a", "b"], TWO, [("a", 0, 1, (1,))] * 2))
        five = [(d, 0, 1, (1,)) for d in "abcde"]
        check_raises(self, TooBig, {"what": "locks"}, lambda: lock_house(5, list("abcde"), TWO, five))
        self.assertEqual(len(lock_house(5, list("abcde"), TWO, five[:4]).locks), 4)

    def test_arguments_stay(self):
        locks, candidates = [], [1, 2]
        locks.append(("a", 0, 1, candidates))
        plan = lock_house(5, ["a"], "a", locks)
        candidates.append(3)
        locks.clear()
        self.assertEqual(plan.locks, (("w.a", 0, 1, (1, 2)),))


if __name__ == "__main__":
    unittest.main()
