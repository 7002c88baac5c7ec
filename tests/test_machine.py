"""Points [56], [57], [42], [43] and [50], and the interface of machine.py."""

import random
import unittest

from holdingsshut.boards import board_after, first_board
from holdingsshut.chains import stretch
from holdingsshut.courses import replay
from holdingsshut.errors import BadPrime, Barred, NoDeed, NoDraw, UnknownName
from holdingsshut.houses import lock_house, mend_house, refresh_house
from holdingsshut.machine import Machine
from holdingsshut.plans import Deed, Plan
from holdingsshut.sealing import Tables, seal, unseal
from holdingsshut.sources import sources
from tests.courses import Course, is_allowed
from tests.helpers import check_raises, number_in
from tests.test_courses import NO_DEEDS
from tests.test_sealing import random_tables
from tests.tinyplans import tiny_plan

TWO = (2, ("a", "b"))


def e(name):
    return ((name, 1),)


def random_machine(chance, plan, most):
    """A machine on random tables behind a random course."""
    machine = Machine(plan, random_tables(chance, plan.p), [chance.randrange(10**6) for _ in range(60)])
    walk = Course(plan)
    for _ in range(chance.randint(0, most)):
        deeds = [deed for deed in plan.deeds if is_allowed(deed, walk.marks)]
        if deeds:
            deed = chance.choice(deeds)
            walk = walk.after(deed)
            machine.do(deed.name)
    return machine


def shape(machine):
    """All that can be asked of a machine."""
    return (
        machine.marks_now, machine.spent_now, machine.course_done, machine.draws_left, machine.dated_world(), machine.record(),
        machine.posted(), [machine.number_of(slot) for slot in machine.plan.slots],
    )


class Numbers(unittest.TestCase):
    def test_draws_are_taken_in_the_order_of_renews(self):
        plan = Plan(
            5, marks=["m"], start=Deed("start", renews=["s", "k", "j"]), roads=[("k", "m")],
            deeds=[Deed("a", renews=["j", "s"], sets=["m"]), Deed("b", renews=["k"], when="m", clears=["m"]), Deed("c")],
        )
        machine = Machine(plan, Tables.plain(5), [7, 10**39 + 3, 4, 5, 6, 9, 1])
        self.assertEqual(machine.dated_world(), {"s#0": 2, "k#0": 3, "j#0": 4})
        self.assertEqual((machine.marks_now, machine.spent_now, machine.course_done, machine.draws_left), ((), (), (), 4))
        self.assertIsNone(machine.do("a"))
        self.assertEqual(machine.dated_world(), {"s#0": 2, "k#0": 3, "j#0": 4, "j#1": 0, "s#1": 1})
        self.assertEqual((machine.marks_now, machine.spent_now, machine.course_done, machine.draws_left),
            (("m",), ("k",), ("a",), 2))
        machine.do("c")
        self.assertEqual(machine.draws_left, 2)
        machine.do("b")
        self.assertEqual((machine.marks_now, machine.spent_now, machine.course_done, machine.draws_left),
            ((), (), ("a", "c", "b"), 1))
        self.assertEqual([machine.number_of(x) for x in ["s", "k", "j"]], [1, 4, 0])
        self.assertEqual(machine.dated_world()["k#1"], 4)

    def test_locks_get_stretches_of_their_candidates(self):
        plan = lock_house(5, ["a", "b"], TWO, [("a", 3, 4, (1, 4, 2)), ("b", 0, 2, (3,))])
        chance = random.Random(281)
        for draw in [0, 1, 2, 3, 4, 5, 10**39 + 1, 3 * 10**38 + 2]:
            tables = random_tables(chance, 5)
            machine = Machine(plan, tables, [1, 2, 3, 4, draw, draw])
            wanted = stretch(5, tables.up, tables.down, password=(1, 4, 2)[draw % 3], salt=3, length=4)
            self.assertEqual(machine.number_of("w.a"), wanted)
            self.assertEqual(machine.number_of("w.b"), stretch(5, tables.up, tables.down, password=3, salt=0, length=2))
            self.assertEqual(machine.draws_left, 0)

    def test_a_lock_that_is_renewed(self):
        plan = Plan(7, start=Deed("start", renews=["w"]), locks=[("w", 0, 3, (5, 6))], deeds=[Deed("new", renews=["w"])])
        machine = Machine(plan, Tables.plain(7), [0, 1])
        machine.do("new")
        tables = Tables.plain(7)
        told = [stretch(7, tables.up, tables.down, password=x, salt=0, length=3) for x in [5, 6]]
        self.assertEqual(machine.dated_world(), {"w#0": told[0], "w#1": told[1]})

    def test_attributes_and_wrong_primes(self):
        plan, tables = mend_house(5, ["a"], "a"), Tables.plain(5)
        machine = Machine(plan, tables, [1, 2])
        self.assertEqual((machine.plan.slots, machine.plan.p), (plan.slots, 5))
        self.assertEqual((machine.tables.up, machine.tables.tags), (tables.up, tables.tags))
        for p in [2, 3, 7, 97]:
            check_raises(self, BadPrime, {"value": p}, lambda: Machine(plan, Tables.plain(p), []))

    def test_draws_too_few_at_the_start(self):
        plan = mend_house(5, ["a", "b"], TWO)
        for many in range(4):
            check_raises(self, NoDraw, {"slot": plan.slots[many]}, lambda: Machine(plan, Tables.plain(5), [1] * many))
        self.assertEqual(Machine(plan, Tables.plain(5), [1] * 4).draws_left, 0)
        self.assertEqual(Machine(Plan(5, start=Deed("start")), Tables.plain(5), []).dated_world(), {})

    def test_draws_that_are_not_needed_are_kept(self):
        plan = mend_house(5, ["a", "b"], TWO)
        draws = [1, 2, 3, 4, 0, 1, 2, 9]
        machine = Machine(plan, Tables.plain(5), draws)
        draws.clear()
        self.assertEqual(machine.draws_left, 4)
        machine.do("mend")
        self.assertEqual((machine.draws_left, machine.number_of("k.a"), machine.number_of("s.1"),
            machine.number_of("s")), (1, 0, 2, 4))

    def test_number_of_what_is_no_slot(self):
        machine = Machine(mend_house(5, ["a"], "a"), Tables.plain(5), (1, 2))
        for name in ["x", "k.a~", "k.a#0", "o.a", "", None, 0, ["s"], ("s",)]:
            check_raises(self, UnknownName, {"name": name}, lambda: machine.number_of(name))


class Deeds(unittest.TestCase):
    def test_refused_deeds_change_nothing(self):
        plan = mend_house(5, ["a", "b"], TWO)
        machine = Machine(plan, Tables.plain(5), [1, 2, 3, 4, 0, 1])
        before = shape(machine)
        for name in NO_DEEDS:
            check_raises(self, NoDeed, {"at": 0, "name": name}, lambda: machine.do(name))
        check_raises(self, NoDraw, {"slot": "s.1"}, lambda: machine.do("mend"))
        self.assertEqual(shape(machine), before)
        machine.do("take.a")
        before = shape(machine)
        check_raises(self, Barred, {"at": 1, "name": "take.a"}, lambda: machine.do("take.a"))
        for name in NO_DEEDS:
            check_raises(self, NoDeed, {"at": 1, "name": name}, lambda: machine.do(name))
        check_raises(self, NoDraw, {"slot": "s.1"}, lambda: machine.do("mend"))
        self.assertEqual(shape(machine), before)
        machine.do("take.b")
        self.assertEqual(machine.course_done, ("take.a", "take.b"))

    def test_barred_goes_before_missing_draws(self):
        plan = Plan(5, marks=["m"], start=Deed("start", renews=["s", "t"]),
            deeds=[Deed("new", when="m", renews=["t", "s"]), Deed("set", sets=["m"])])
        machine = Machine(plan, Tables.plain(5), [1, 2])
        check_raises(self, Barred, {"at": 0, "name": "new"}, lambda: machine.do("new"))
        machine.do("set")
        check_raises(self, NoDraw, {"slot": "t"}, lambda: machine.do("new"))
        machine = Machine(plan, Tables.plain(5), [1, 2, 3])
        machine.do("set")
        check_raises(self, NoDraw, {"slot": "s"}, lambda: machine.do("new"))
        self.assertEqual(machine.draws_left, 1)

    def test_against_replay(self):
        chance = random.Random(282)
        for _ in range(80):
            plan = tiny_plan(chance, chance.randint(0, 2))
            machine = random_machine(chance, plan, 6)
            marks, spent, dates = replay(plan, machine.course_done)[-1]
            self.assertEqual((machine.marks_now, machine.spent_now), (marks, spent))
            self.assertEqual(set(machine.dated_world()), {f"{x}#{date}" for x in dates for date in range(dates[x] + 1)})
            for x in plan.slots:
                self.assertEqual(machine.number_of(x), machine.dated_world()[f"{x}#{dates[x]}"])
            self.assertIsInstance(machine.course_done, tuple)

    def test_many_deeds(self):
        plan = refresh_house(2, ["a", "b"], TWO)
        machine = Machine(plan, Tables.plain(2), [1] * 1500)
        for _ in range(1200):
            machine.do("refresh")
        self.assertEqual((len(machine.course_done), machine.draws_left, machine.number_of("s.1")), (1200, 296, 1))
        self.assertEqual(len(machine.dated_world()), 1204)
        self.assertEqual(machine.record(), [])

    def test_two_machines_know_nothing_of_each_other(self):
        plan, draws = mend_house(5, ["a", "b"], TWO), [1, 2, 3, 4, 5, 6, 7]
        one, two = Machine(plan, Tables.plain(5), draws), Machine(plan, Tables.plain(5), draws)
        before = shape(two)
        one.do("take.a")
        one.do("mend")
        self.assertEqual(shape(two), before)
        self.assertEqual(draws, [1, 2, 3, 4, 5, 6, 7])

    def test_answers_are_new(self):
        machine = Machine(mend_house(5, ["a", "b"], TWO), Tables.plain(5), [1, 2, 3, 4])
        machine.do("take.a")
        before = shape(machine)
        machine.dated_world().clear()
        machine.record().clear()
        machine.posted().clear()
        self.assertEqual(shape(machine), before)


class Records(unittest.TestCase):
    def record_plainly(self, machine):
        plan, world, tables = machine.plan, machine.dated_world(), machine.tables
        found = []
        for _, kind, (needs, gives) in sources(plan, machine.course_done):
            body = number_in(plan.p, gives, world)
            if kind == "tell":
                found.append(("tell", body))
            else:
                keys = [number_in(plan.p, need, world) for need in needs]
                tags, sealed = seal(tables, keys, body)
                found.append(("box", tags, sealed))
        return found

    def test_right_after_the_start(self):
        plan = Plan(
            5, start=Deed("start", renews=["k", "s"], tells=[(("k", 2), ("s", 1))],
                letters=[((e("k"),), e("s"), True), ((e("s"),), e("k"), False), (((),), (), True)]),
            standing=[((e("s"), e("k")), (("k", 1), ("s", 1)))],
        )
        machine = Machine(plan, Tables.plain(5), [3, 4])
        # k is 3 and s is 4; tags are 4 - x, pads 3*x + 1.
        self.assertEqual(machine.record(), [
            ("box", (0, 1), (2 + 13 + 2 * 10) % 5), ("tell", 0), ("box", (1,), (4 + 10) % 5), ("box", (4,), 1),
        ])
        self.assertEqual(machine.posted(), [
            ((((),), ()), ((4,), 1)), (((e("k"),), e("s")), ((1,), 4)), (((e("s"),), e("k")), ((0,), (3 + 13) % 5)),
            (((e("s"), e("k")), (("k", 1), ("s", 1))), ((0, 1), (2 + 13 + 2 * 10) % 5)),
        ])

    def test_old_names_and_quiet_letters(self):
        plan = Plan(
            5, start=Deed("start", renews=["k", "s"]),
            deeds=[Deed("new", renews=["k"], tells=[(("k", 1), ("k~", 4))],
                letters=[((e("k~"),), e("k"), True), ((e("k"),), e("s"), False)])],
        )
        machine = Machine(plan, Tables.plain(5), [1, 2, 4, 0])
        machine.do("new")
        self.assertEqual(machine.record(), [("tell", 3), ("box", (3,), (4 + 4) % 5)])
        machine.do("new")
        self.assertEqual(machine.record(), [("tell", 3), ("box", (3,), 3), ("tell", 1), ("box", (0,), (0 + 13) % 5)])
        # The letter with an old name is never posted, the quiet one is.
        self.assertEqual(machine.posted(), [(((e("k"),), e("s")), ((4,), (2 + 1) % 5))])

    def test_against_the_plain_reading(self):
        chance = random.Random(283)
        kinds = set()
        for _ in range(150):
            plan = tiny_plan(chance, chance.randint(0, 2))
            machine = random_machine(chance, plan, 5)
            record = machine.record()
            self.assertEqual(record, self.record_plainly(machine))
            kinds |= {entry[0] for entry in record}
            board = first_board(plan)
            for name in machine.course_done:
                board = board_after(plan, board, name)
            numbers = {x: machine.number_of(x) for x in plan.slots}
            posted = machine.posted()
            self.assertEqual([rule for rule, _ in posted], list(board))
            for (needs, gives), box in posted:
                keys = [number_in(plan.p, need, numbers) for need in needs]
                self.assertEqual(unseal(machine.tables, keys, box), number_in(plan.p, gives, numbers))
        self.assertEqual(kinds, {"tell", "box"})

    def test_a_posted_letter_is_sealed_with_the_numbers_of_its_time(self):
        # A board's rules name no renewed number, so old boxes stay as they were.
        chance = random.Random(284)
        machine = Machine(mend_house(5, ["a", "b"], TWO, keys_new=False, masks_new=False), random_tables(chance, 5),
            [1, 2, 3, 4])
        before = machine.posted()
        machine.do("mend")
        self.assertEqual(machine.posted(), before)


if __name__ == "__main__":
    unittest.main()
