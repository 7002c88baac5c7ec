"""Points [2] (B), [54], [50], [51], [52] and [53], and the interface of boardchecks.py."""

import random
import unittest

from holdingsshut.boardchecks import check_break, check_open
from holdingsshut.boards import board_after, cut_off, first_board, friends, keeping_rules, lot_rules, promise_break
from holdingsshut.courses import allowed, marks_after
from holdingsshut.errors import BadBlind, BadStep, Barred, NoDeed, NotOpen
from holdingsshut.houses import lease_house, mend_house, refresh_house, tree_house
from holdingsshut.papers import blind_paper, find_paper
from holdingsshut.plans import Deed, Plan
from holdingsshut.rules import close
from tests.helpers import check_raises, paper_fault
from tests.test_courses import NO_DEEDS
from tests.test_papers import NO_INTEGERS
from tests.tinyplans import tiny_plan

TWO = (2, ("a", "b"))
TWO_OF = (2, ("d", "c"))


def e(name):
    return ((name, 1),)


def fault(call):
    return paper_fault(call, ["word", "kind", "at", "name"])


def fault_plainly(plan, pairs):
    """The first fault by the functions over boards; the form of the pairs is right."""
    told = [(marks, set(board)) for marks, board in pairs]
    if (tuple(sorted(plan.start.sets)), set(first_board(plan))) not in told:
        return "notopen", "start", 0, ""
    for at, (marks, board) in enumerate(pairs):
        broken = promise_break(plan, marks, board)
        if broken is not None:
            return "notopen", broken[1], at, plan.promises[broken[0]][0]
        for name in allowed(plan, marks):
            if cut_off(plan, marks, board, name) is not None:
                return "notopen", "cut", at, name
            if (marks_after(plan, marks, name), set(board_after(plan, board, name))) not in told:
                return "notopen", "step", at, name
    return None


def pairs_of(plan, most):
    """The pairs that courses lead to, whether anything is broken or not."""
    pairs = [(tuple(sorted(plan.start.sets)), first_board(plan))]
    at = 0
    while at < len(pairs) < most:
        marks, board = pairs[at]
        for name in allowed(plan, marks):
            pair = (marks_after(plan, marks, name), board_after(plan, board, name))
            if pair not in pairs:
                pairs.append(pair)
        at += 1
    return pairs


def tell_plan():
    """One device d; `out` and `back` move it, `new` renews what it stores."""
    return Plan(
        5, marks=["m", "n"], start=Deed("start", renews=["k", "j", "s"], letters=[((e("k"),), e("s"), True)]),
        devices=[("d", [e("j"), e("k")], "m"), ("c", [], None)], promises=[("s", "d", None), ("s", (2, ("d", "c")), "n")],
        deeds=[Deed("out", unless="m", sets=["m"]), Deed("back", when="m", clears=["m"], hands=["d"])],
    )


def openings(plan):
    return friends(plan)[1]


class Open(unittest.TestCase):
    def test_what_the_search_returns_is_right(self):
        for plan in [
            mend_house(5, ["a", "b"], TWO), refresh_house(5, ["a", "b"], TWO), tree_house(5, ("a", ("b", "c"))),
            lease_house(5, 1, "chains", [(0, 1)]), Plan(5, start=Deed("start")),
        ]:
            self.assertEqual(friends(plan)[0], "open")
            self.assertIsNone(check_open(plan, openings(plan)))

    def test_lists_that_no_search_returned(self):
        chance = random.Random(261)
        plan = mend_house(5, ["a", "b"], TWO, masks_new=False)
        pairs = list(openings(plan))
        for _ in range(20):
            other = []
            for marks, board in pairs + pairs[:1]:
                rules = list(board) * 2
                chance.shuffle(rules)
                other.append((marks, rules))
            chance.shuffle(other)
            self.assertIsNone(check_open(plan, other))
            self.assertIsNone(check_open(plan, tuple(other)))
        # More pairs, which no course leads to but which are free of breaks and closed under the deeds.
        more = [(marks, board + (((e("k.a"),), e("k.a")),)) for marks, board in pairs]
        self.assertIsNone(check_open(plan, pairs + more))

    def test_form_faults(self):
        plan = tell_plan()
        good = openings(Plan(5, marks=["m", "n"], start=Deed("start", renews=["k", "j", "s"])))[0]
        for bad in [
            (["m"], ()), (("n", "m"), ()), (("m", "m"), ()), (("x",), ()), ([], ()), (None, ()), ("m", ()),
            ((None,), ()), (("m", 5), ()),
            ((["m"],), ()), ({"m": 1}, ()), ((), (((e("k~"),), e("s")),)), ((), (((e("k"),), e("s#0")),)),
            ((), [((e("k"), e("x")), e("s"))]),
            ((), (((), e("m")),)), ((), (((), e("d")),)),
        ]:
            for pairs, at in [([bad], 0), ([good, bad, bad], 1), ((good, good, bad, (1, 2)), 2)]:
                check_raises(self, NotOpen, {"kind": "form", "at": at, "name": ""}, lambda: check_open(plan, pairs))

    def test_start_faults(self):
        plan = mend_house(5, ["a", "b"], TWO, masks_new=False)
        pairs = openings(plan)
        for told in [[], (), pairs[1:], [(("o.a",), pairs[0][1])], [((), pairs[0][1][1:])],
            [((), pairs[0][1] + (((e("s"),), e("s")),))]]:
            check_raises(self, NotOpen, {"kind": "start", "at": 0, "name": ""}, lambda: check_open(plan, told))

    def test_faults_written_out(self):
        plan = tell_plan()
        board = first_board(plan)
        right = [((), board), (("m",), board)]
        self.assertIsNone(check_open(plan, right))
        self.assertIsNone(check_open(plan, right[::-1]))
        for pairs, kind, at, name in [
            (right[:1], "step", 0, "out"), (right + [((), ())], "short", 2, "s"),
            (right + [(("m",), board + (((), e("s")),))], "over", 2, "s"),
            ([(("m",), ())] + right, "step", 0, "back"),
            # With n set, d alone comes to what only d and c together were promised.
            (right + [(("n",), board)], "over", 2, "s"),
        ]:
            check_raises(self, NotOpen, {"kind": kind, "at": at, "name": name}, lambda: check_open(plan, pairs))

    def test_cut_goes_before_step_and_promises_before_both(self):
        plan = Plan(
            5, start=Deed("start", renews=["k", "s"], letters=[((e("k"),), e("s"), True)]), devices=[("d", [e("k")], None)],
            promises=[("s", "d", None)],
            deeds=[Deed("still", renews=["s"], letters=[((e("k"),), e("s"), True)]), Deed("new", renews=["k"])],
        )
        check_raises(self, NotOpen, {"kind": "cut", "at": 0, "name": "new"},
            lambda: check_open(plan, [((), first_board(plan))]))
        check_raises(self, NotOpen, {"kind": "short", "at": 0, "name": "s"},
            lambda: check_open(plan, [((), ()), ((), first_board(plan))]))

    def test_against_the_plain_reading(self):
        chance = random.Random(262)
        found = {}
        for _ in range(500):
            plan = tiny_plan(chance, chance.choice([0, 0, 1]))
            pairs = [pair for pair in pairs_of(plan, 12) if chance.random() < 0.95]
            chance.shuffle(pairs)
            wanted = fault_plainly(plan, pairs)
            self.assertEqual(fault(lambda: check_open(plan, pairs)), wanted)
            found[wanted and wanted[1]] = found.get(wanted and wanted[1], 0) + 1
        for kind in [None, "start", "short", "over", "cut", "step"]:
            self.assertGreater(found.get(kind, 0), 5, (kind, found))

    def test_open_plans_have_right_lists_and_others_none(self):
        chance = random.Random(263)
        found = {True: 0, False: 0}
        for _ in range(300):
            plan = tiny_plan(chance)
            answer = friends(plan)
            if answer[0] == "open":
                self.assertIsNone(check_open(plan, answer[1]))
            else:
                self.assertIsNone(check_break(plan, answer))
                self.assertIsNotNone(fault(lambda: check_open(plan, pairs_of(plan, 40))))
            found[answer[0] == "open"] += 1
        self.assertGreater(min(found.values()), 50)

    def test_arguments_stay(self):
        plan = tell_plan()
        board = list(first_board(plan))[::-1]
        pairs = [((), board), (("m",), list(board))]
        check_open(plan, pairs)
        self.assertEqual(pairs, [((), board), (("m",), board)])
        self.assertEqual(board, list(first_board(plan))[::-1])


class Cuts(unittest.TestCase):
    def plan(self):
        return Plan(
            5, marks=["m", "n"], start=Deed("start", renews=["k", "j", "s"]),
            devices=[("d", [e("j"), e("k"), e("s")], "m"), ("c", [e("k")], "n"), ("b", [], None)],
            deeds=[Deed("out", sets=["m"]), Deed("back", clears=["m"]), Deed("new", renews=["k", "s"]),
                Deed("hand", renews=["k"], hands=["d"], clears=["m"]),
                   Deed("lose", renews=["k"], sets=["m"])],
        )

    def paper(self, plan, course, device, form):
        board = first_board(plan)
        for name in course[:-1]:
            board = board_after(plan, board, name)
        basis, shift = blind_paper(plan.p, keeping_rules(plan, board, course[-1], device), form)
        return "cut", course, device, form, basis, shift

    def test_right_breaks(self):
        plan = self.plan()
        for course, device, form in [(("new",), "d", e("k")), (("new",), "d", e("s")), (("new",), "c", e("k")),
            (("hand", "new"), "c", e("k"))]:
            answer = self.paper(plan, course, device, form)
            self.assertIsNone(check_break(plan, answer))
            kind, course, device, form, basis, shift = answer
            more = tuple(reversed(basis)) + basis
            self.assertIsNone(check_break(plan, (kind, list(course), device, form, list(more), shift)))
        # A device that was out and is in: nothing more is checked.
        self.assertIsNone(check_break(plan, ("cut", ("out", "back"), "d", (), (), ())))
        self.assertIsNone(check_break(plan, ("cut", ["out", "new", "back"], "d", (), (), ())))

    def test_answers_that_tell_no_possible_break(self):
        plan = self.plan()
        good = self.paper(plan, ("new",), "d", e("k"))
        _, course, device, form, basis, shift = good
        for bad in [
            ("cut", (), device, form, basis, shift), ("cut", [], device, (), (), ()), ("cut", course, "x", form, basis, shift),
            ("cut", course, None, form, basis, shift), ("cut", course, ["d"], form, basis, shift),
            ("cut", course, "m", form, basis, shift),
            ("cut", ("lose",), device, form, basis, shift), ("cut", ("hand",), device, form, basis, shift),
            ("cut", ("out", "hand"), device, (), (), ()),
            ("cut", ("out", "new"), device, (), (), ()), ("cut", course, device, e("j"), basis, shift),
            ("cut", course, device, (("k", 2),), basis, shift),
            ("cut", course, device, (), (), ()), ("cut", course, device, list(form), basis, shift),
            ("cut", course, "c", e("s"), basis, shift), ("cut", course, "b", (), (), ()),
            ("cut", ("back",), device, (), (), ()), ("cut", ("out", "back"), device, e("k"), (), ()),
            ("cut", ("out", "back"), device, (), basis, ()),
            ("cut", ("out", "back"), device, (), (), shift), ("cut", ("out", "back"), device, [], (), ()),
            ("cut", ("out", "back"), device, (), [], ()),
            ("cut", ("out", "back"), device, (), (), []), ("cut", ("out", "back"), device, None, (), ()),
        ]:
            check_raises(self, NotOpen, {"kind": "none", "at": len(bad[1]), "name": ""}, lambda: check_break(plan, bad))

    def test_bad_papers(self):
        plan = self.plan()
        _, course, device, form, basis, shift = self.paper(plan, ("new",), "d", e("k"))
        self.assertTrue(basis and shift)
        for bad_basis, bad_shift, kind in [
            ((), shift, "basis"), (basis[1:], (), "basis"), (basis, (), "shift"), (basis, (("k", 2),), "shift"),
            (basis + (e("k"),), shift, "shift"),
        ]:
            check_raises(self, BadBlind, {"kind": kind},
                lambda: check_break(plan, ("cut", course, device, form, bad_basis, bad_shift)))

    def test_the_courses_refusals_come_first(self):
        plan = self.plan()
        for name in NO_DEEDS:
            check_raises(self, NoDeed, {"at": 1, "name": name},
                lambda: check_break(plan, ("cut", ("out", name), "x", (), (), ())))
            check_raises(self, NoDeed, {"at": 0, "name": name}, lambda: check_break(plan, ("short", [name], "x", (), (), ())))
        house = mend_house(5, ["a"], "a")
        for kind in ["cut", "short", "over"]:
            check_raises(self, Barred, {"at": 1, "name": "take.a"},
                lambda: check_break(house, (kind, ("take.a", "take.a"), 9, ("x",), (), ())))


class Promises(unittest.TestCase):
    def plan(self):
        return Plan(
            5, marks=["m", "n"], start=Deed("start", renews=["k", "j", "s", "t"],
                letters=[((e("k"),), e("s"), True), ((e("j"),), e("s"), False)]),
            devices=[("d", [e("k")], "m"), ("c", [e("j")], "n"), ("b", [], None)],
            promises=[("s", (1, ("d", "c")), None), ("t", "d", "n"), ("s", TWO_OF, None), ("t", "c", None)],
            deeds=[Deed("m", sets=["m"]), Deed("n", sets=["n"]), Deed("s", renews=["s"])],
        )

    def paper(self, plan, kind, course, number, lot):
        board = first_board(plan)
        for name in course:
            board = board_after(plan, board, name)
        find = blind_paper if kind == "short" else find_paper
        return (kind, course, number, lot) + find(plan.p, lot_rules(plan, board, lot), e(plan.promises[number][0]))

    def test_right_breaks_that_are_not_the_first_ones(self):
        plan = self.plan()
        for kind, course, number, lot in [
            ("short", (), 3, ("c",)), ("short", ("n",), 1, ("d",)), ("short", ("s",), 0, ("d",)),
            ("over", (), 2, ("c",)), ("over", ("m",), 2, ("b", "c")),
            ("short", ("s",), 0, ("b", "c", "d")), ("short", ("s", "m"), 0, ["c", "b", "c"]),
            ("over", (), 2, ["b", "d", "b"]), ("short", (), 3, ("c", "d")),
        ]:
            answer = self.paper(plan, kind, course, number, lot)
            self.assertIsNone(check_break(plan, answer))
            self.assertIsNone(check_break(plan, (kind, list(course)) + answer[2:]))

    def test_answers_that_tell_no_possible_break(self):
        plan = self.plan()
        short = self.paper(plan, "short", (), 3, ("c",))
        over = self.paper(plan, "over", (), 2, ("c",))
        for number in NO_INTEGERS + [-1, 4, 10**39, -10**39]:
            for good in [short, over]:
                bad = good[:2] + (number,) + good[3:]
                check_raises(self, NotOpen, {"kind": "none", "at": 0, "name": ""}, lambda: check_break(plan, bad))
        for bad in [
            ("short", (), 1, ("d",)) + short[4:], ("short", ("m", "n"), 1, ("d",)) + short[4:],
            ("short", (), 3, ("x",)) + short[4:],
            ("short", (), 3, ("c", "x")) + short[4:], ("short", (), 3, ("c", None)) + short[4:],
            ("short", (), 3, ()) + short[4:],
            ("short", (), 3, ("d",)) + short[4:], ("short", ("n",), 3, ("c",)) + short[4:],
            ("over", (), 2, ("c", "d")) + over[4:],
            ("over", (), 0, ("c",)) + over[4:], ("over", ("n",), 2, ("c",)) + over[4:],
            ("over", (), 2, ("c", "m")) + over[4:], ("short", (), 2, ("c",)) + short[4:],
        ]:
            check_raises(self, NotOpen, {"kind": "none", "at": len(bad[1]), "name": ""}, lambda: check_break(plan, bad))

    def test_bad_papers(self):
        plan = self.plan()
        kind, course, number, lot, basis, shift = self.paper(plan, "short", (), 3, ("c",))
        for bad_basis, bad_shift, fault_kind in [((), shift, "basis"), (basis, (), "shift"), ([], [], "basis"),
            (basis, e("s"), "shift")]:
            check_raises(self, BadBlind, {"kind": fault_kind},
                lambda: check_break(plan, (kind, course, number, lot, bad_basis, bad_shift)))
        kind, course, number, lot, steps, last = self.paper(plan, "over", (), 2, ("c",))
        for bad_steps, bad_last, at in [(steps[:1], last, 1), (steps, (), len(steps)),
            (((9, ()),) + steps[1:], last, 0), ((), (), 0)]:
            check_raises(self, BadStep, {"at": at}, lambda: check_break(plan, (kind, course, number, lot, bad_steps, bad_last)))
        # What is not broken has no right paper.
        check_raises(self, BadBlind, {"kind": "shift"},
            lambda: check_break(plan, ("short", (), 0, ("d",), (e("k"), e("s")), e("s"))))

    def test_answers_of_the_search(self):
        chance = random.Random(264)
        found = {}
        for _ in range(500):
            plan = tiny_plan(chance, chance.choice([0, 0, 1]))
            answer = friends(plan)
            if answer[0] != "open":
                self.assertIsNone(check_break(plan, answer))
            found[answer[0]] = found.get(answer[0], 0) + 1
        self.assertGreater(min(found[kind] for kind in ["cut", "short", "over"]), 20)

    def test_boards_behind_longer_courses(self):
        plan = self.plan()
        answer = self.paper(plan, "short", ("s", "m", "n"), 0, ())
        # With d and c out, no lot that is in fits the formula.
        check_raises(self, NotOpen, {"kind": "none", "at": 3, "name": ""}, lambda: check_break(plan, answer))
        self.assertNotIn(e("s"), close(5, lot_rules(plan, board_after(plan, first_board(plan), "s"), ["d", "c", "b"])))


if __name__ == "__main__":
    unittest.main()
