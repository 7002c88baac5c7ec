"""Points [50], [51], [52], [53], [33], [32], [16] and [4], and the interface of boards.py."""

import random
import unittest

from holdingsshut.boards import board_after, cut_off, first_board, friends, keeping_rules, lot_rules, promise_break
from holdingsshut.courses import allowed, marks_after
from holdingsshut.errors import NoDeed, Stranger, TooMany
from holdingsshut.houses import lease_house, lock_house, mend_house, refresh_house, tree_house
from holdingsshut.papers import blind_paper, check_blind, check_paper, find_paper
from holdingsshut.plans import Deed, Plan
from holdingsshut.rules import close
from tests.courses import Course, is_allowed
from tests.helpers import check_raises, fits_plainly, lots_plainly, names_plainly
from tests.test_courses import NO_DEEDS
from tests.tinyplans import tiny_plan

TWO = (2, ("a", "b"))


def e(name):
    return ((name, 1),)


def rule(gives, *needs):
    return tuple(e(x) for x in needs), e(gives)


def sealed_plan():
    """A plan whose deeds post letters of all kinds."""
    return Plan(
        5, marks=["m", "n"], start=Deed("start", renews=["k", "j", "s", "t"], letters=[
            ((e("k"),), e("s"), False), ((e("j"), e("k")), e("t"), True), ((e("k"),), e("s"), True), ((e("j"),), (), True),
        ]),
        standing=[((e("t"),), e("s")), ((e("j"),), e("k"))],
        devices=[("d", [e("k"), (("j", 1), ("s", 2)), e("j")], "m"), ("c", [e("s"), e("k")], None), ("b", [], "n")],
        deeds=[
            Deed("new.k", renews=["k"],
                letters=[((e("k~"),), e("k"), True), ((e("j"),), e("t"), False), ((e("t"),), (("k", 1), ("k~", 1)), False)]),
            Deed("new.t", renews=["t"], hands=["d"]), Deed("out", sets=["m"]), Deed("back", clears=["m"], renews=["j"]),
            Deed("hand", clears=["m"], renews=["k"], hands=["d", "c"]),
        ],
    )


class Boards(unittest.TestCase):
    def test_the_first_board(self):
        wanted = [rule("k", "j"), ((e("j"),), ()), rule("t", "j", "k"), rule("s", "k"), rule("s", "t")]
        self.assertEqual(first_board(sealed_plan()), tuple(sorted(wanted)))
        self.assertEqual(first_board(Plan(5, start=Deed("start"))), ())
        plan = lock_house(5, ["a"], "a", [("a", 0, 1, (1,))])
        self.assertEqual(first_board(plan), (rule("s", "k.a"), rule("k.a", "w.a")))
        self.assertEqual(len(first_board(lease_house(5, 0, "tree", [(0, 0), (0, 0)]))), 2)

    def test_boards_after_deeds(self):
        plan = sealed_plan()
        board = first_board(plan)
        after = board_after(plan, board, "new.k")
        # What names k is taken off, the letter with an old name is not posted, the standing letter is.
        self.assertEqual(after, tuple(sorted([((e("j"),), ()), rule("s", "t"), rule("t", "j"), rule("k", "j")])))
        self.assertEqual(board_after(plan, board, "new.t"), tuple(sorted(
            [rule("k", "j"), ((e("j"),), ()), rule("s", "k"), rule("s", "t")])))
        self.assertEqual(board_after(plan, board, "out"), board)

    def test_boards_written_otherwise(self):
        plan = sealed_plan()
        board = first_board(plan)
        chance = random.Random(241)
        for deed in plan.deeds:
            other = list(board) * 2 + [((), e("s")), rule("t", "s", "s")]
            wanted = board_after(plan, tuple(other), deed.name)
            self.assertEqual(wanted, tuple(sorted(set(wanted))))
            chance.shuffle(other)
            kept = list(other)
            self.assertEqual(board_after(plan, other, deed.name), wanted)
            self.assertEqual(other, kept)
            self.assertIn(((), e("s")), wanted)

    def test_a_rule_that_would_still_be_right_is_taken_off(self):
        plan = Plan(5, start=Deed("start", renews=["k", "s"]), deeds=[Deed("go", renews=["k"])])
        self.assertEqual(board_after(plan,
            [((e("k"),), e("k")), ((e("s"),), (("k", 1), ("s", 1))), rule("s", "s"), ((), e("k"))], "go"), (rule("s", "s"),))

    def test_against_the_plain_reading(self):
        chance = random.Random(242)
        for _ in range(200):
            plan = tiny_plan(chance, chance.randint(0, 1))
            board = set(plan.standing) | {(needs, gives) for needs, gives, _ in plan.start.letters}
            self.assertEqual(first_board(plan), tuple(sorted(board)))
            for _ in range(4):
                if plan.deeds:
                    deed = chance.choice(plan.deeds)
                    wanted = board_plainly(plan, board, deed)
                    self.assertEqual(board_after(plan, list(board), deed.name), tuple(sorted(wanted)))
                    board = wanted

    def test_refusals(self):
        plan = sealed_plan()
        for name in NO_DEEDS:
            told = {"at": 0, "name": name}
            check_raises(self, NoDeed, told, lambda: board_after(plan, (), name))
            check_raises(self, NoDeed, told, lambda: keeping_rules(plan, (), name, "x"))
            check_raises(self, NoDeed, told, lambda: cut_off(plan, (), (), name))
        for name in [None, 0, "x", "", "m", ["d"], ("d",), "d~"]:
            check_raises(self, Stranger, {"name": name}, lambda: keeping_rules(plan, (), "out", name))


def board_plainly(plan, board, deed):
    def names(told):
        return {x for f in told[0] + (told[1],) for x, _ in f}

    kept = {told for told in board if not names(told) & set(deed.renews)}
    posted = {(needs, gives) for needs, gives, _ in deed.letters}
    posted = {told for told in posted if not any(x.endswith("~") for x in names(told))}
    return kept | posted | {told for told in plan.standing if names(told) & set(deed.renews)}


class Rules(unittest.TestCase):
    def test_lot_rules(self):
        plan = sealed_plan()
        board = (rule("t", "s"), rule("s", "k"))
        tells = {"b": [], "c": [rule("s"), rule("k")], "d": [rule("k"), ((), (("j", 1), ("s", 2))), rule("j")]}
        wanted = sorted(board)
        self.assertEqual(lot_rules(plan, board, []), wanted)
        self.assertEqual(lot_rules(plan, list(board) * 2, ["d"]), tells["d"] + wanted)
        for lot in [["d", "b", "c"], ("c", "d", "c", "b"), ["b", "d", "c", "d"]]:
            self.assertEqual(lot_rules(plan, board[::-1], lot), tells["c"] + tells["d"] + wanted)
        # Equal rules stay, each in its place.
        self.assertEqual(lot_rules(plan, [rule("k"), rule("k")], ["c"]), tells["c"] + [rule("k")])

    def test_keeping_rules(self):
        plan = sealed_plan()
        board = [rule("s", "t"), ((e("j"), e("k")), e("s")), rule("j", "k"), rule("j", "k"), rule("k")]
        letters = [((e("k~"),), e("k")), ((e("j"),), e("t")), ((e("t"),), (("k", 1), ("k~", 1)))]
        standing = [((e("t"),), e("s")), ((e("j"),), e("k"))]
        old_board = [rule("k~"), ((e("j"), e("k~")), e("s")), ((e("k~"),), e("j")), rule("s", "t")]
        self.assertEqual(sorted(set(board)), [rule("k"), ((e("j"), e("k")), e("s")), rule("j", "k"), rule("s", "t")])
        self.assertEqual(keeping_rules(plan, board, "new.k", "d"), [
            rule("k~"), ((), (("j", 1), ("s", 2))), rule("j"),
        ] + old_board + letters + standing)
        self.assertEqual(keeping_rules(plan, tuple(board), "new.k", "c"),
            [rule("s"), rule("k~")] + old_board + letters + standing)
        self.assertEqual(keeping_rules(plan, (), "out", "b"), standing)

    def test_keeping_rules_keep_the_order_of_the_board_before_renaming(self):
        # With b renewed the board's rules would be sorted otherwise in old numbers: b.c before b~.
        plan = Plan(5, start=Deed("start", renews=["b", "b.c"]), devices=[("d", (), None)], deeds=[Deed("go", renews=["b"])])
        told = keeping_rules(plan, [rule("b.c", "b.c"), rule("b", "b")], "go", "d")
        self.assertEqual(told, [rule("b~", "b~"), rule("b.c", "b.c")])
        self.assertNotEqual(told, sorted(told))


class Cutting(unittest.TestCase):
    def test_written_out(self):
        plan = sealed_plan()
        board = first_board(plan)
        self.assertIsNone(cut_off(plan, [], board, "new.k"))
        self.assertIsNone(cut_off(plan, [], board, "out"))
        self.assertIsNone(cut_off(plan, ["m"], board, "out"))
        # Nobody tells the new j: its sum with s is the first form that is lost.
        self.assertEqual(cut_off(plan, [], board, "back"), ("d", (("j", 1), ("s", 2))))
        # A device that was out and comes back by no hand is cut off, whatever its drawer.
        self.assertEqual(cut_off(plan, ["m"], board, "back"), ("d", ()))
        # The deed hands d and c the new k.
        self.assertIsNone(cut_off(plan, ["m"], board, "hand"))
        self.assertIsNone(cut_off(plan, ["n"], board, "hand"))

    def test_an_empty_drawer(self):
        plan = Plan(
            5, marks=["m"], start=Deed("start", renews=["k"]), devices=[("d", [], "m")],
            deeds=[Deed("back", clears=["m"]), Deed("hand", clears=["m"], hands=["d"]), Deed("new", renews=["k"]),
                Deed("stay")],
        )
        self.assertEqual(cut_off(plan, ["m"], (), "back"), ("d", ()))
        self.assertIsNone(cut_off(plan, ["m"], (), "hand"))
        self.assertIsNone(cut_off(plan, ["m"], (), "stay"))
        self.assertIsNone(cut_off(plan, [], (), "new"))
        self.assertIsNone(cut_off(plan, [], (), "back"))

    def test_a_form_may_stay_known_though_its_slots_are_renewed(self):
        device = ("d", [(("a", 1), ("b", 1)), e("c")], None)
        for letters, wanted in [
            ([((e("c"),), (("a", 1), ("a~", 4)), True)], None),
            ([((e("a"),), (("a", 1), ("a~", 4)), True)], (("a", 1), ("b", 1))),
            ([((e("c"),), (("a", 1), ("b", 1)), False)], None), ([], (("a", 1), ("b", 1))),
        ]:
            plan = Plan(5, start=Deed("start", renews=["a", "b", "c"]), devices=[device],
                deeds=[Deed("go", renews=["a"], letters=letters)])
            self.assertEqual(cut_off(plan, (), (), "go"), wanted and ("d", wanted))
        # What the old board opens with old numbers helps, too.
        plan = Plan(5, start=Deed("start", renews=["a", "b"]), devices=[("d", [e("a")], None)],
                    deeds=[Deed("go", renews=["a"], letters=[((e("b"),), e("a"), True)])])
        self.assertIsNone(cut_off(plan, (), [rule("b", "a")], "go"))
        self.assertEqual(cut_off(plan, (), [rule("a", "a")], "go"), ("d", e("a")))

    def test_the_deed_closes_under_standing_letters_in_new_numbers(self):
        plan = Plan(5, start=Deed("start", renews=["a", "b"]), standing=[((e("b"),), e("a"))],
            devices=[("d", [e("a"), e("b")], None)],
                    deeds=[Deed("go", renews=["a"])])
        self.assertIsNone(cut_off(plan, (), (), "go"))

    def test_the_first_device_in_the_order_of_the_plan(self):
        plan = Plan(5, start=Deed("start", renews=["a"]),
            devices=[("z", [], None), ("d", [e("a")], None), ("c", [e("a")], None)],
                    deeds=[Deed("go", renews=["a"]), Deed("hand", renews=["a"], hands=["d"])])
        self.assertEqual(cut_off(plan, (), (), "go"), ("d", e("a")))
        self.assertEqual(cut_off(plan, (), (), "hand"), ("c", e("a")))

    def plainly(self, plan, marks, board, deed):
        after = (set(marks) - set(deed.clears)) | set(deed.sets)
        for name, drawer, out in plan.devices:
            if out in after or name in deed.hands:
                continue
            if out in marks:
                return name, ()
            for f in drawer:
                if any(x in deed.renews for x, _ in f) and f not in close(plan.p, keeping_rules(plan, board, deed.name, name)):
                    return name, f
        return None

    def test_against_the_plain_reading(self):
        chance = random.Random(243)
        found = {"out": 0, "lost": 0, None: 0}
        for _ in range(500):
            plan = tiny_plan(chance)
            board = list(first_board(plan)) * 2
            marks = [mark for mark in plan.marks if chance.random() < 0.5]
            for deed in plan.deeds:
                wanted = self.plainly(plan, marks, board, deed)
                self.assertEqual(cut_off(plan, marks, board, deed.name), wanted)
                found[None if wanted is None else "lost" if wanted[1] else "out"] += 1
        self.assertGreater(min(found.values()), 20)


def breaks_plainly(plan, marks, board):
    """All pairs (side, lot) for each asked promise that is broken, of all lots of devices that are in."""
    inside = [name for name, _, out in plan.devices if out not in marks or out is None]
    found = {}
    for number, (slot, formula, when) in enumerate(plan.promises):
        if when is None or fits_plainly(when, marks):
            for lot in lots_plainly(inside):
                comes = e(slot) in close(plan.p, lot_rules(plan, board, lot))
                if comes != fits_plainly(formula, lot):
                    found.setdefault(number, []).append(("over" if comes else "short", lot))
    return found


class Promises(unittest.TestCase):
    def plan(self, formula, when=None, drawers=("a", "b", "c")):
        return Plan(
            5, marks=["m", "n"], start=Deed("start", renews=["a", "b", "c", "s"]), promises=[("s", formula, when)],
            devices=[(name, [e(x) for x in drawer], "m" if name == "b" else None) for name, drawer in zip("abc", drawers)],
        )

    def test_written_out(self):
        both = [((e("a"), e("b")), e("s"))]
        self.assertIsNone(promise_break(self.plan(TWO), [], both))
        self.assertEqual(promise_break(self.plan("a"), [], both), (0, "short", ("a",)))
        self.assertEqual(promise_break(self.plan((3, ("a", "b", "c"))), [], both), (0, "over", ("a", "b")))
        self.assertEqual(promise_break(self.plan(TWO), [], []), (0, "short", ("a", "b")))
        # b is out, so nobody is promised anything and nobody can come to it.
        self.assertIsNone(promise_break(self.plan(TWO), ["m"], []))
        self.assertIsNone(promise_break(self.plan((1, ("b", TWO))), ["m"], both))

    def test_when(self):
        self.assertEqual(promise_break(self.plan("a", "n"), ["n"], []), (0, "short", ("a",)))
        self.assertIsNone(promise_break(self.plan("a", "n"), [], []))
        self.assertIsNone(promise_break(self.plan("a", "n"), ["m"], []))
        self.assertEqual(promise_break(self.plan("a", (1, ("m", "n"))), ["m"], []), (0, "short", ("a",)))

    def test_the_empty_lot_and_lots_without_the_formulas_names(self):
        self.assertEqual(promise_break(self.plan("a"), [], [rule("s")]), (0, "over", ("b", "c")))
        self.assertEqual(promise_break(self.plan((1, ("a", "b", "c"))), [], [rule("s")]), (0, "over", ()))
        self.assertEqual(promise_break(self.plan("a"), [], [rule("s", "a"), rule("s", "c")]), (0, "over", ("b", "c")))
        self.assertEqual(promise_break(self.plan("a"), ["m"], [rule("s", "a"), rule("s", "c")]), (0, "over", ("c",)))

    def test_lots_are_ascending_and_of_devices_that_are_in(self):
        plan = Plan(5, start=Deed("start", renews=["s"]), devices=[(name, [], None) for name in "zxy"],
            promises=[("s", "x", None)])
        self.assertEqual(promise_break(plan, [], [((), e("s"))]), (0, "over", ("y", "z")))
        both = (2, ("b", "c"))
        self.assertEqual(promise_break(self.plan(both), [], [rule("s", "a"), rule("s", "b")]), (0, "over", ("a", "b")))
        self.assertEqual(promise_break(self.plan(both), ["m"], [rule("s", "a"), rule("s", "b")]), (0, "over", ("a",)))

    def test_short_goes_before_over_within_a_promise(self):
        told = [rule("s", "a"), rule("s", "c")]
        self.assertEqual(promise_break(self.plan((1, ("a", "b"))), [], told), (0, "short", ("b",)))

    def test_the_first_broken_promise(self):
        plan = Plan(
            5, marks=["m"], start=Deed("start", renews=["s", "t"]), devices=[("a", [e("s")], None)],
            promises=[("s", "a", None), ("t", "a", "m"), ("t", "a", None), ("s", "a", None)],
        )
        self.assertEqual(promise_break(plan, [], []), (2, "short", ("a",)))
        self.assertEqual(promise_break(plan, ["m"], []), (1, "short", ("a",)))

    def test_the_order_of_lots(self):
        formula = (1, ((2, ("a", "b")), (2, ("b", "c")), (2, ("a", "c"))))
        told = [((e("b"), e("c")), e("s"))]
        self.assertEqual(promise_break(self.plan(formula), [], told), (0, "short", ("a", "b")))
        unfit = [rule("s", x) for x in "bc"] + [((e("a"), e("b")), e("s"))]
        self.assertEqual(promise_break(self.plan(formula), [], unfit), (0, "over", ("b",)))

    def test_against_all_lots(self):
        chance = random.Random(244)
        found = {"short": 0, "over": 0, None: 0}
        for _ in range(700):
            plan = tiny_plan(chance)
            board = list(first_board(plan))[::-1] + list(first_board(plan))
            marks = [mark for mark in plan.marks if chance.random() < 0.5]
            wanted = breaks_plainly(plan, marks, board)
            broken = promise_break(plan, marks, board)
            if not wanted:
                self.assertIsNone(broken)
                found[None] += 1
                continue
            number, side, lot = broken
            self.assertEqual(number, min(wanted))
            self.assertIn((side, lot), wanted[number])
            shorts = [told for told in wanted[number] if told[0] == "short"]
            if shorts:
                self.assertEqual((side, lot), shorts[0])
            else:
                inside = [name for name, _, out in plan.devices if out is None or out not in marks]
                names = names_plainly(plan.promises[number][1])
                greatest = [  # unfit lots of the formula's names, by length and then as tuples
                    u for u in lots_plainly(names) if not fits_plainly(plan.promises[number][1], u)
                    and all(fits_plainly(plan.promises[number][1], u + (x,)) for x in names - set(u))
                ]
                lots = [tuple(sorted(x for x in inside if x in u or x not in names)) for u in greatest]
                self.assertEqual(lot, [one for one in lots if ("over", one) in wanted[number]][0])
            found[side] += 1
        self.assertGreater(min(found.values()), 20)


class Friends(unittest.TestCase):
    def plainly(self, plan, most):
        """The first break by a walk over all courses up to a length: (course, kind, ..)."""
        first = Course(plan)
        level = [(first, first_board(plan))]
        if promise_break(plan, first.marks, level[0][1]):
            return ((),) + promise_break(plan, first.marks, level[0][1])
        for _ in range(most):
            reached = []
            for walk, board in level:
                for deed in [deed for deed in plan.deeds if is_allowed(deed, walk.marks)]:
                    cut = cut_off(plan, walk.marks, board, deed.name)
                    after, board_then = walk.after(deed), board_after(plan, board, deed.name)
                    if cut is not None:
                        return (after.names, "cut") + cut
                    broken = promise_break(plan, after.marks, board_then)
                    if broken is not None:
                        return (after.names,) + broken
                    reached.append((after, board_then))
            level = reached
        return None

    def pairs_plainly(self, plan):
        pairs = [(tuple(sorted(plan.start.sets)), first_board(plan))]
        at = 0
        while at < len(pairs):
            marks, board = pairs[at]
            for name in allowed(plan, marks):
                pair = (marks_after(plan, marks, name), board_after(plan, board, name))
                if pair not in pairs:
                    pairs.append(pair)
            at += 1
        return tuple(pairs)

    def board_behind(self, plan, course):
        board = first_board(plan)
        for name in course:
            board = board_after(plan, board, name)
        return board

    def check(self, plan, most):
        answer = friends(plan)
        wanted = self.plainly(plan, most)
        if answer[0] == "open":
            self.assertIsNone(wanted)
            self.assertEqual(answer, ("open", self.pairs_plainly(plan)))
            return answer
        kind, course, told, more, one, two = answer
        if len(course) > most:
            self.assertIsNone(wanted)
            return answer
        if kind == "cut":
            self.assertEqual(wanted, (course, kind, told, more))
            rules = keeping_rules(plan, self.board_behind(plan, course[:-1]), course[-1], told)
            self.assertEqual((one, two), blind_paper(plan.p, rules, more) if more else ((), ()))
            return answer
        self.assertEqual(wanted, (course, told, kind, more))
        rules = lot_rules(plan, self.board_behind(plan, course), more)
        goal = e(plan.promises[told][0])
        self.assertEqual((one, two), (blind_paper if kind == "short" else find_paper)(plan.p, rules, goal))
        (check_blind if kind == "short" else check_paper)(plan.p, rules, goal, one, two)
        return answer

    def test_tiny_plans(self):
        chance = random.Random(245)
        found = {}
        for _ in range(900):
            answer = self.check(tiny_plan(chance, chance.choice([0, 0, 1])), 3)
            key = (answer[0], min(len(answer[1]), 3))
            found[key] = found.get(key, 0) + 1
        for key, least in [(("open", 1), 20), (("open", 2), 20), (("open", 3), 20), (("cut", 1), 20), (("cut", 2), 3),
            (("short", 0), 20), (("over", 0), 5)]:
            self.assertGreater(found.get(key, 0), least, (key, found))

    def test_houses_are_open(self):
        three = list("abc")
        for plan in [
            mend_house(5, three, (2, ("a", "b", "c"))),
            mend_house(5, three, (2, ("a", "b", "c")), keys_new=False, secret_new=True),
            refresh_house(5, three, (2, ("a", "b", "c"))), tree_house(5, (("a", "b"), "c")),
            lease_house(5, 2, "tree", [(0, 2)]),
            lease_house(5, 2, "chains", [(0, 0), (2, 2)]), lock_house(5, three, (2, ("a", "b")), [("a", 0, 1, (1, 2))]),
        ]:
            self.assertEqual(friends(plan), ("open", self.pairs_plainly(plan)))

    def test_a_friend_that_is_cut_off(self):
        plan = Plan(
            5, marks=["m"], start=Deed("start", renews=["k", "j"]), devices=[("d", [e("j"), e("k")], "m")],
            deeds=[Deed("out", unless="m", sets=["m"]), Deed("new", when="m", renews=["k"]),
                Deed("back", when="m", clears=["m"])],
        )
        self.assertEqual(friends(plan), ("cut", ("out", "back"), "d", (), (), ()))
        plan = Plan(5, start=Deed("start", renews=["k", "j"]), devices=[("d", [e("j"), e("k")], None)],
            deeds=[Deed("new", renews=["k"])])
        self.assertEqual(friends(plan), ("cut", ("new",), "d", e("k"), (e("j"), e("k~")), e("k")))

    def test_broken_promises_behind_courses(self):
        plan = Plan(
            5, marks=["m"], start=Deed("start", renews=["k", "s"], letters=[((e("k"),), e("s"), True)]),
            devices=[("d", [e("k")], None)],
            deeds=[Deed("set", sets=["m"]), Deed("new", when="m", renews=["s"])], promises=[("s", "d", None)],
        )
        self.assertEqual(friends(plan), ("short", ("set", "new"), 0, ("d",), (e("k"),), e("s")))
        plan = Plan(
            5, marks=["m"], start=Deed("start", renews=["k", "s"], letters=[((e("k"),), e("s"), True)]),
            devices=[("d", [e("k")], None), ("c", [e("k")], None)],
            deeds=[Deed("set", sets=["m"])], promises=[("s", (2, ("d", "c")), "m")],
        )
        self.assertEqual(friends(plan), ("over", ("set",), 0, ("c",), ((0, ()), (1, (((0, 1),),))), ((1, 1),)))

    def test_devices_are_asked_before_promises(self):
        plan = Plan(
            5, start=Deed("start", renews=["k", "s"], letters=[((e("k"),), e("s"), True)]), devices=[("d", [e("k")], None)],
            deeds=[Deed("new", renews=["k"])], promises=[("s", "d", None)],
        )
        self.assertEqual(friends(plan)[:4], ("cut", ("new",), "d", e("k")))

    def test_limits(self):
        plan = mend_house(5, ["a", "b"], TWO, masks_new=False)
        answer = friends(plan)
        self.assertEqual((answer[0], len(answer[1])), ("open", 4))
        self.assertEqual(friends(plan, limit=4), answer)
        for limit in [1, 2, 3]:
            check_raises(self, TooMany, {"limit": limit}, lambda: friends(plan, limit=limit))
        plan = Plan(5, marks=["m"], start=Deed("start", renews=["s"]), devices=[("d", (), None)], promises=[("s", "d", "m")],
                    deeds=[Deed("set", sets=["m"])])
        self.assertEqual(friends(plan, limit=1)[:2], ("short", ("set",)))
        self.assertEqual(friends(Plan(5, start=Deed("start")), limit=1), ("open", (((), ()),)))

    def test_answers_are_equal(self):
        plan = refresh_house(5, ["a", "b"], TWO)
        self.assertEqual(friends(plan), friends(plan))


if __name__ == "__main__":
    unittest.main()
