"""Points [54], [46], [47], [49] and [31], and the interface of checks.py."""

import random
import unittest

from holdingsshut.checks import check_heals, check_price, check_shut, check_theft
from holdingsshut.courses import allowed
from holdingsshut.errors import (
    BadCells, BadStep, Barred, NoDeed, NotPrice, NotShut, NotTheft, UnknownName,
)
from holdingsshut.holdings import first_holding, holding_covers, step_holding, stolen, survivors
from holdingsshut.holds import Hold
from holdingsshut.houses import lock_house, mend_house, refresh_house
from holdingsshut.plans import Deed, Plan
from holdingsshut.search import heals, judge, price
from tests.helpers import check_raises, paper_fault
from tests.test_courses import NO_DEEDS
from tests.test_holds import other_writing
from tests.test_papers import NO_INTEGERS
from tests.test_pebbles import BAD_CELLS
from tests.test_sources import NO_LOCKS
from tests.tinyplans import tiny_plan

TWO = (2, ("a", "b"))


def e(name):
    return ((name, 1),)


def fault(call):
    return paper_fault(call, ["word", "kind", "at", "deed"])


def fault_plainly(plan, holdings, guessed=(), deed_name=None):
    """The first fault by the functions over holdings; the form of the entries is right."""
    def covered(small):
        return any(holding_covers(plan, big, small) for big in holdings)

    if not covered(first_holding(plan, guessed=guessed)):
        return "notshut", "start", 0, ""
    for at, entry in enumerate(holdings):
        if deed_name is None and stolen(plan, entry) is not None:
            return "notshut", "secret", at, ""
        for name in allowed(plan, entry[0]):
            if not covered(step_holding(plan, entry, name, guessed=guessed)):
                return "notshut", "step", at, name
    if deed_name is not None:
        found = survivors(plan, holdings, deed_name, guessed=guessed)
        if found:
            return "notshut", "survivor", found[0], deed_name
    return None


def written_otherwise(chance, plan, holding):
    marks, spent, basis, boxes = holding
    hold = other_writing(chance, Hold(plan.p, basis, boxes))
    forms = list(hold.basis)
    chance.shuffle(forms)
    return marks, spent, forms, list(hold.boxes)


def mend():
    return mend_house(5, ["a", "b"], TWO, road=TWO, guard=TWO)


class Shut(unittest.TestCase):
    def test_what_the_search_returns_is_right(self):
        for plan in [mend(), refresh_house(5, ["a", "b"], TWO, road=TWO), Plan(5, start=Deed("start"))]:
            self.assertIsNone(check_shut(plan, judge(plan)[1]))
        plan = lock_house(5, ["a", "b"], TWO, [("a", 0, 1, (1,)), ("b", 0, 1, (2,))])
        for guessed in [[], ["w.a"], ["w.b", "w.b"]]:
            self.assertIsNone(check_shut(plan, judge(plan, guessed=guessed)[1], guessed=guessed))

    def test_lists_that_no_search_returned(self):
        chance = random.Random(251)
        plan = mend()
        shut = list(judge(plan)[1])
        for _ in range(20):
            other = [written_otherwise(chance, plan, entry) for entry in shut] + shut[2:4]
            # One more entry that holds less than another covers each of its steps.
            other.append((shut[-1][0], ("s",), (), ()))
            chance.shuffle(other)
            self.assertIsNone(check_shut(plan, other))
            self.assertIsNone(check_shut(plan, tuple(other)))

    def test_form_faults(self):
        plan = mend()
        shut = list(judge(plan)[1])
        good = shut[0]
        for bad in [
            (["o.a"], (), (), ()), (("o.b", "o.a"), (), (), ()), (("o.a", "o.a"), (), (), ()), (("o.x",), (), (), ()),
            ((), ["s"], (), ()), ((), ("s", "s"), (), ()), ((), ("k.a",), (), ()), ([], (), (), ()), ((), [], (), ()),
            ((), (), (e("x"),), ()), ((), (), (e("s~"),), ()), ((), (), (e("s#0"),), ()), ((), (), [e("o.a")], []),
            ((), (), (), (((e("s~"),), e("s")),)), ((), (), (), (((e("s"),), e("s#1")),)),
            ((), (), (), [((e("s"), e("y")), e("s"))]),
            (None, (), (), ()), ("o.a", (), (), ()), ((), "s", (), ()), ((), None, (), ()), ((None,), (), (), ()),
            ((), (True,), (), ()),
            (("o.a", 5), (), (), ()), ((["o.a"],), (), (), ()), ({"o.a": 1}, (), (), ()),
        ]:
            for holdings, at in [([bad], 0), (shut + [bad], len(shut)), ([good, bad, bad], 1), ((good, bad, (1, 2, 3, 4)), 1)]:
                check_raises(self, NotShut, {"kind": "form", "at": at, "deed": ""}, lambda: check_shut(plan, holdings))
                check_raises(self, NotShut, {"kind": "form", "at": at, "deed": ""}, lambda: check_heals(plan, holdings, "mend"))

    def test_the_secrets_of_the_plan_are_those_of_its_roads(self):
        plan = Plan(5, start=Deed("start", renews=["s", "t"]), roads=[("s", None)])
        check_shut(plan, [((), (), (), ())])
        check_raises(self, NotShut, {"kind": "form", "at": 0, "deed": ""}, lambda: check_shut(plan, [((), ("t",), (), ())]))

    def test_start_faults(self):
        plan = mend()
        shut = list(judge(plan)[1])
        told = {"kind": "start", "at": 0, "deed": ""}
        for holdings in [[], (), shut[1:], [((), (), (), ())], [((), ("s",)) + shut[0][2:]]]:
            check_raises(self, NotShut, told, lambda: check_shut(plan, holdings))
            check_raises(self, NotShut, told, lambda: check_heals(plan, holdings, "mend"))
        # A stolen secret and a missing step come later.
        check_raises(self, NotShut, told, lambda: check_shut(plan, [(("o.a",), (), (e("s"),), ())]))
        # The first holding of the plan against the guessed locks counts.
        plan = lock_house(5, ["a"], "a", [("a", 0, 1, (1,))])
        check_raises(self, NotShut, told, lambda: check_shut(plan, judge(plan)[1], guessed=["w.a"]))

    def test_secret_and_step_faults(self):
        plan = Plan(
            5, marks=["m"], start=Deed("start", renews=["s", "k"]), roads=[("s", "m")],
            deeds=[Deed("a", when="m", clears=["m"]), Deed("b", sets=["m"], tells=[e("k")]), Deed("c", renews=["s", "k"])],
        )
        empty, known, after = ((), (), (), ()), (("m",), ("s",), (e("k"),), ()), ((), ("s",), (e("k"),), ())
        marked = (("m",), ("s",), (), ())
        low = ((), (), (e("k"),), ())
        self.assertIsNone(check_shut(plan, [low, known]))
        self.assertIsNone(check_shut(plan, [known, low, low]))
        self.assertIsNone(check_shut(plan, [empty, known, after]))
        for holdings, kind, at, deed in [
            ([low], "step", 0, "b"), ([empty, known], "step", 1, "a"), ([known, empty], "step", 0, "a"),
            ([empty, marked], "step", 0, "b"), ([empty, marked, known], "step", 2, "a"),
            ([((), (), (e("s"),), ())], "secret", 0, ""),
            ([low, known, ((), (), (e("s"),), ())], "secret", 2, ""), ([low, ((), (), (e("s"),), ()), known], "secret", 1, ""),
            ([empty, ((), (), (e("s"),), ())], "step", 0, "b"),
        ]:
            check_raises(self, NotShut, {"kind": kind, "at": at, "deed": deed}, lambda: check_shut(plan, holdings))

    def test_against_the_plain_reading(self):
        chance = random.Random(252)
        found = {}
        for _ in range(300):
            plan = tiny_plan(chance, chance.choice([0, 0, 1]))
            guessed = [lock[0] for lock in plan.locks if chance.random() < 0.5]
            answer = heals(plan, plan.deeds[0].name, guessed=guessed) if plan.deeds else judge(plan, guessed=guessed)
            holdings = list(answer[1]) if answer[0] in ("heals", "shut") else [first_holding(plan, guessed=guessed)]
            for _ in range(3):
                other = [entry for entry in holdings if chance.random() < 0.85]
                if other and chance.random() < 0.3:
                    marks, spent, basis, boxes = other.pop(chance.randrange(len(other)))
                    other.append((marks, tuple(x for x in plan.secrets if chance.random() < 0.5 or x in spent), basis, boxes))
                    other[-1] = (marks, tuple(sorted(other[-1][1])), basis, boxes)
                chance.shuffle(other)
                wanted = fault_plainly(plan, other, guessed)
                self.assertEqual(fault(lambda: check_shut(plan, other, guessed=guessed)), wanted)
                found[wanted and wanted[1]] = found.get(wanted and wanted[1], 0) + 1
                for deed in plan.deeds:
                    wanted = fault_plainly(plan, other, guessed, deed.name)
                    self.assertEqual(fault(lambda: check_heals(plan, other, deed.name, guessed=guessed)), wanted)
                    found[wanted and wanted[1]] = found.get(wanted and wanted[1], 0) + 1
        for kind in [None, "start", "secret", "step", "survivor"]:
            self.assertGreater(found[kind], 20, kind)

    def test_refusals(self):
        plan = lock_house(5, ["a"], "a", [("a", 0, 1, (1,))])
        for name in NO_LOCKS:
            check_raises(self, UnknownName, {"name": name},
                lambda: check_shut(plan, [(None, (), (), ())], guessed=["w.a", name]))

    def test_arguments_stay(self):
        plan = mend()
        shut = [(marks, spent, list(basis), list(boxes)) for marks, spent, basis, boxes in judge(plan)[1]]
        kept = [(marks, spent, list(basis), list(boxes)) for marks, spent, basis, boxes in shut]
        check_shut(plan, shut)
        self.assertEqual(shut, kept)


class Heals(unittest.TestCase):
    def test_what_the_search_returns_is_right(self):
        plan = mend_house(5, ["a", "b"], TWO, guard=(1, ("a", "b")))
        holdings = heals(plan, "mend")[1]
        self.assertIsNone(check_heals(plan, holdings, "mend"))
        chance = random.Random(253)
        other = [written_otherwise(chance, plan, entry) for entry in holdings + holdings[:2]]
        self.assertIsNone(check_heals(plan, other, "mend"))

    def test_stolen_secrets_do_not_matter(self):
        plan = mend_house(5, ["a"], "a", secret_new=True)
        holdings = heals(plan, "mend")[1]
        self.assertIsNone(check_heals(plan, holdings, "mend"))
        check_raises(self, NotShut, {"kind": "secret", "at": 1, "deed": ""}, lambda: check_shut(plan, holdings))

    def test_survivors_come_behind_all_entries(self):
        plan = mend_house(5, ["a"], "a", secret_new=True)
        holdings = list(heals(plan, "mend")[1])
        check_raises(self, NotShut, {"kind": "survivor", "at": 0, "deed": "take.a"},
            lambda: check_heals(plan, holdings, "take.a"))
        check_raises(self, NotShut, {"kind": "step", "at": 0, "deed": "take.a"},
            lambda: check_heals(plan, holdings[:1], "take.a"))
        mixed = [(("o.a",), ()) + holdings[1][2:], (("o.a",), ("s",), (e("k.a"),), ())] + holdings
        check_raises(self, NotShut, {"kind": "survivor", "at": 2, "deed": "take.a"}, lambda: check_heals(plan, mixed, "take.a"))
        keeps = mend_house(5, ["a", "b"], TWO, masks_new=False)
        entries = [((), (), (e("s.1"),)), (("o.a",), (), (e("s.1"), e("k.a"))), (("o.b",), (), (e("s.1"), e("k.b"), e("s")))]
        boxes = first_holding(keeps)[3]
        entries = [entry + (boxes,) for entry in entries] + [((), (), (e("s"), e("s.1")), boxes),
            (("o.a",), (), (e("s"), e("s.1"), e("k.a")), boxes),
                                                             (("o.a", "o.b"), (), (e("s"), e("s.1"), e("k.a"),
                                                                 e("k.b")), boxes)]
        check_raises(self, NotShut, {"kind": "survivor", "at": 0, "deed": "mend"}, lambda: check_heals(keeps, entries, "mend"))

    def test_refusals(self):
        plan = mend()
        for name in NO_DEEDS:
            check_raises(self, NoDeed, {"at": 0, "name": name},
                lambda: check_heals(plan, [(None, (), (), ())], name, guessed=["y"]))
        for name in NO_LOCKS:
            check_raises(self, UnknownName, {"name": name},
                lambda: check_heals(plan, [(None, (), (), ())], "mend", guessed=[name]))


class Thefts(unittest.TestCase):
    def plan(self):
        return mend_house(2, ["a", "b"], TWO, guard=(1, ("a", "b")), masks_new=False)

    def test_right_papers(self):
        plan = self.plan()
        _, course, secret, steps, last = judge(plan)
        self.assertIsNone(check_theft(plan, course, secret, steps, last))
        self.assertIsNone(check_theft(plan, list(course), secret, list(steps), last))
        # One more idle step, and the same step again.
        self.assertIsNone(check_theft(plan, course, secret, steps + ((2, ()), (1, (((0, 0),),)))[:1], last))
        # A longer course that ends with the secret known.
        longer = course + ("mend",)
        self.assertIsNone(check_theft(plan, longer, secret, steps, last))

    def test_faults(self):
        plan = self.plan()
        _, course, secret, steps, last = judge(plan)
        check_raises(self, BadStep, {"at": 0}, lambda: check_theft(plan, course, secret, ((6, ()),) + steps[1:], last))
        check_raises(self, BadStep, {"at": 2},
            lambda: check_theft(plan, course, secret, steps[:2] + ((0, (((1, 1),),)),), last))
        check_raises(self, BadStep, {"at": 4}, lambda: check_theft(plan, course, secret, steps, last[:1]))
        check_raises(self, BadStep, {"at": 0}, lambda: check_theft(plan, course[:2], secret, ((5, ()),), ((0, 1),)))
        for name in ["k.a", "o.a", "", None, 0, ["s"], "s~", "s#0"]:
            check_raises(self, UnknownName, {"name": name}, lambda: check_theft(plan, course, name, (), ()))
        check_raises(self, NoDeed, {"at": 1, "name": "x"}, lambda: check_theft(plan, ["mend", "x"], "k.a", (), ()))
        check_raises(self, Barred, {"at": 1, "name": "take.b"}, lambda: check_theft(plan, ["take.a", "take.b"], "k.a", (), ()))

    def test_spent_secrets(self):
        plan = mend_house(5, ["a"], "a", road="a")
        told = ((0, ()), (1, ()))
        check_raises(self, NotTheft, {"why": "spent"}, lambda: check_theft(plan, ["take.a"], "s", told, ()))
        check_raises(self, BadStep, {"at": 0}, lambda: check_theft(plan, [], "s", told, ()))
        check_raises(self, UnknownName, {"name": "k.a"}, lambda: check_theft(plan, ["take.a"], "k.a", told, ()))

    def test_guessed_locks(self):
        plan = lock_house(5, ["a"], "a", [("a", 0, 1, (1,))])
        _, course, secret, steps, last = judge(plan, guessed=["w.a"])
        self.assertIsNone(check_theft(plan, course, secret, steps, last, guessed=["w.a", "w.a"]))
        check_raises(self, BadStep, {"at": 0}, lambda: check_theft(plan, course, secret, steps, last))
        for name in NO_LOCKS:
            check_raises(self, UnknownName, {"name": name}, lambda: check_theft(plan, ["x"], None, steps, last, guessed=[name]))

    def test_the_goal_is_the_present_number(self):
        plan = Plan(5, marks=["m"], start=Deed("start", renews=["s"], tells=[e("s")]), roads=[("s", "m")],
            deeds=[Deed("new", renews=["s"])])
        self.assertIsNone(check_theft(plan, (), "s", ((0, ()),), ((0, 1),)))
        check_raises(self, BadStep, {"at": 1}, lambda: check_theft(plan, ("new",), "s", ((0, ()),), ((0, 1),)))


class Prices(unittest.TestCase):
    locks = [("a", 0, 4, (1, 2, 3)), ("b", 0, 4, (2, 3)), ("c", 1, 3, (0, 1, 2, 3, 4))]

    def plan(self, formula=(3, ("a", "b", "c"))):
        return lock_house(5, ["a", "b", "c"], formula, self.locks)

    def test_right_answers(self):
        chance = random.Random(254)
        for _ in range(60):
            plan, cells = tiny_plan(chance, chance.choice([0, 1, 2])), chance.randint(1, 3)
            self.assertIsNone(check_price(plan, price(plan, cells=cells), cells=cells))
        for formula in ["a", TWO, (2, ("a", "b", "c")), (3, ("a", "b", "c"))]:
            self.assertIsNone(check_price(self.plan(formula), price(self.plan(formula), cells=2), cells=2))

    def test_answers_that_no_search_returned(self):
        plan = self.plan()
        _, cost, locks, theft, shuts = price(plan, cells=2)
        # Locks in another order and twice, further pairs, pairs in another order, lists.
        more = ((("w.c",), judge(plan, guessed=["w.c"])[1]), ((), judge(plan)[1]))
        for answer in [
            ("price", cost, ["w.b", "w.c", "w.a", "w.b"], theft, shuts),
            ("price", cost, locks, theft, list(shuts) + list(more)),
            ("price", cost, locks, theft, more + shuts[::-1]),
            ("price", cost, locks, theft, [(("w.b", "w.a", "w.b"), shuts[0][1]), (["w.c", "w.b"], shuts[1][1])]),
        ]:
            self.assertIsNone(check_price(plan, answer, cells=2))
        # A set that costs the same, though it is not the first one.
        both = lock_house(5, ["a", "b"], (1, ("a", "b")), [("a", 0, 1, (1,)), ("b", 0, 1, (1,))])
        first = price(both, cells=1)
        self.assertEqual(first[1:3], (2, ("w.a",)))
        later = ("price", 2, ("w.b",), judge(both, guessed=["w.b"]), first[4])
        self.assertIsNone(check_price(both, later, cells=1))

    def test_faults_of_the_price(self):
        plan = self.plan()
        _, cost, locks, theft, shuts = price(plan, cells=2)
        for name in ["w.x", "a", "s", ""]:
            check_raises(self, UnknownName, {"name": name},
                lambda: check_price(plan, ("price", 5, ("w.a", name, "y"), theft, ()), cells=2))
        for bad in [cost + 1, cost - 1, 0, -cost, str(cost), float(cost), None, True, (cost,)]:
            answer = ("price", bad, locks, ("theft", ("x",), "y", (), ()), ())
            check_raises(self, NotPrice, {"kind": "cost"}, lambda: check_price(plan, answer, cells=2))
        check_raises(self, NotPrice, {"kind": "cost"}, lambda: check_price(plan, ("price", cost, locks, theft, shuts), cells=1))
        for bad in NO_INTEGERS:
            free = Plan(5, start=Deed("start", renews=["s"], tells=[e("s")]), roads=[("s", None)])
            check_raises(self, NotPrice, {"kind": "cost"},
                lambda: check_price(free, ("price", bad, (), ("theft", (), "s", ((0, ()),), ((0, 1),)), ()), cells=1))

    def test_faults_of_the_theft(self):
        plan = self.plan()
        _, cost, locks, theft, shuts = price(plan, cells=2)
        for bad, error, told in [
            (("theft", ("x",), "s", (), ()), NoDeed, {"at": 0, "name": "x"}),
            (("theft", (), "k.a", (), ()), UnknownName, {"name": "k.a"}),
            (("theft", (), "s", theft[3], theft[4][:1]), BadStep, {"at": len(theft[3])}),
        ]:
            check_raises(self, error, told, lambda: check_price(plan, ("price", cost, locks, bad, ()), cells=2))
        # The theft is made against the told locks alone.
        check_raises(self, BadStep, {"at": 0}, lambda: check_price(plan, ("price", 20, ("w.b",), theft, ()), cells=2))

    def test_sets_that_are_left_open(self):
        plan = self.plan()
        _, cost, locks, theft, shuts = price(plan, cells=2)
        for left in [(), shuts[:1], shuts[1:], ((("w.c",), shuts[0][1]),), ((("w.x",), shuts[0][1]),)]:
            check_raises(self, NotPrice, {"kind": "open"},
                lambda: check_price(plan, ("price", cost, locks, theft, left), cells=2))
        plan = self.plan(TWO)
        told, shuts = price(lock_house(5, list("abc"), TWO, self.locks[1:]), cells=2)
        self.assertEqual(told, "none")
        tight = lock_house(5, list("abc"), TWO, self.locks[1:])
        for left in [(), ((("w.b",), shuts[0][1]), (("w.c",), shuts[0][1])), ((("w.b", "w.x"), shuts[0][1]),)]:
            check_raises(self, NotPrice, {"kind": "open"}, lambda: check_price(tight, ("none", left), cells=2))

    def test_faults_of_the_shut_lists(self):
        plan = self.plan()
        _, cost, locks, theft, shuts = price(plan, cells=2)
        told = {"kind": "start", "at": 0, "deed": ""}
        check_raises(self, NotShut, told,
            lambda: check_price(plan, ("price", cost, locks, theft, shuts + (((), ()),)), cells=2))
        check_raises(self, NotShut, told,
            lambda: check_price(plan, ("price", cost, locks, theft, ((shuts[0][0], shuts[1][1]),) + shuts), cells=2))
        first = first_holding(plan, guessed=locks)
        check_raises(self, NotShut, {"kind": "secret", "at": 0, "deed": ""},
                     lambda: check_price(plan, ("price", cost, locks, theft, shuts + ((locks, (first,)),)), cells=2))
        # A strange lock of a shut list comes in the turn of its pair.
        strange = (("w.a", "w.y", "w.x"), ())
        check_raises(self, UnknownName, {"name": "w.y"},
            lambda: check_price(plan, ("price", cost, locks, theft, shuts + (strange,)), cells=2))
        check_raises(self, NotShut, told,
            lambda: check_price(plan, ("price", cost, locks, theft, shuts + (((), ()), strange)), cells=2))
        check_raises(self, UnknownName, {"name": "w.y"},
            lambda: check_price(plan, ("price", cost, locks, theft, (strange,) + shuts + (((), ()),)), cells=2))
        tight = lock_house(5, list("abc"), TWO, self.locks[1:])
        _, shuts = price(tight, cells=2)
        check_raises(self, NotShut, told, lambda: check_price(tight, ("none", ((shuts[0][0], ()),)), cells=2))

    def test_cells_come_first(self):
        plan = self.plan()
        for cells in BAD_CELLS:
            check_raises(self, BadCells, {"cells": cells},
                lambda: check_price(plan, ("price", None, ("x",), None, ()), cells=cells))
            check_raises(self, BadCells, {"cells": cells}, lambda: check_price(plan, ("none", ()), cells=cells))


if __name__ == "__main__":
    unittest.main()
