"""Points [2] (A) and (C), [58], [31], [32], [52] and [25], and the interface of thief.py."""

import itertools
import random
import unittest

from holdingsshut.chains import stretch
from holdingsshut.errors import BadCells, BadStep, NotHeld, Stranger, UnknownName
from holdingsshut.guesses import guess_cost, trial_steps
from holdingsshut.houses import lock_house, mend_house, refresh_house
from holdingsshut.machine import Machine
from holdingsshut.papers import find_paper
from holdingsshut.plans import Deed, Plan
from holdingsshut.rules import close
from holdingsshut.boards import board_after, first_board, lot_rules
from holdingsshut.search import judge, price
from holdingsshut.sealing import Tables
from holdingsshut.sources import known, sources
from holdingsshut.thief import friend_number, rob
from tests.helpers import check_raises, lots_plainly, number_in, random_formula
from tests.test_machine import random_machine
from tests.test_pebbles import BAD_CELLS
from tests.test_sealing import random_tables
from tests.test_sources import NO_LOCKS
from tests.tinyplans import tiny_plan

TWO = (2, ("a", "b"))


def e(name):
    return ((name, 1),)


def machine_behind(plan, tables, course, draws):
    machine = Machine(plan, tables, draws)
    for name in course:
        machine.do(name)
    return machine


class Robbing(unittest.TestCase):
    def test_a_theft_ends_with_the_secrets_number_in_every_world(self):
        plan = mend_house(3, ["a", "b"], TWO, guard=(1, ("a", "b")), masks_new=False)
        _, course, secret, steps, last = judge(plan)
        for draws in itertools.product(range(3), repeat=6):
            machine = machine_behind(plan, Tables.plain(3), course, draws)
            self.assertEqual(rob(machine, steps, last, cells=1), (machine.number_of(secret), 0))

    def test_thefts_of_tiny_plans(self):
        chance = random.Random(291)
        found = {}
        for _ in range(1200):
            plan = tiny_plan(chance, chance.choice([0, 0, 1, 2]))
            guessed = [lock[0] for lock in plan.locks if chance.random() < 0.8]
            answer = judge(plan, guessed=guessed)
            if answer[0] == "theft":
                _, course, secret, steps, last = answer
                cells = chance.randint(1, 3)
                for _ in range(3):
                    draws = [chance.randrange(100) for _ in range(40)]
                    machine = machine_behind(plan, random_tables(chance, plan.p), course, draws)
                    number, made = rob(machine, steps, last, guessed=guessed, cells=cells)
                    self.assertEqual(number, machine.number_of(secret))
                    self.assertLessEqual(made, guess_cost(plan.locks, guessed, cells=cells))
                key = (len(course), made > 0)
                found[key] = found.get(key, 0) + 1
        for key in [(0, False), (0, True), (1, False), (1, True), (2, False)]:
            self.assertGreater(found.get(key, 0), 4, (key, found))

    def test_everything_that_is_known_can_be_computed(self):
        chance = random.Random(292)
        for _ in range(150):
            plan = tiny_plan(chance, chance.choice([0, 1, 2]))
            guessed = [lock[0] for lock in plan.locks]
            machine = random_machine(chance, plan, 4)
            rules = [rule for _, _, rule in sources(plan, machine.course_done, guessed=guessed)]
            for f in list(known(plan, machine.course_done, guessed=guessed)) + [()]:
                steps, last = find_paper(plan.p, rules, f)
                number, _ = rob(machine, steps, last, guessed=guessed, cells=2)
                self.assertEqual(number, number_in(plan.p, f, machine.dated_world()))

    def test_tells_standing_letters_and_letters(self):
        plan = Plan(
            5, start=Deed("start", renews=["k", "s", "t"], tells=[e("k")],
                letters=[((e("k"), e("s")), e("t"), True)]), standing=[((e("k"),), e("s"))],
        )
        machine = Machine(plan, Tables.plain(5), [3, 1, 4])
        # The sources are the standing letter, the tell, and the letter.
        steps = ((1, ()), (0, (((0, 1),),)), (2, (((0, 1),), ((1, 1),))))
        for last, number in [(((2, 1),), 4), (((0, 2), (1, 1), (2, 3)), (6 + 1 + 12) % 5), ((), 0), (((1, 4),), 4)]:
            self.assertEqual(rob(machine, steps, last, cells=9), (number, 0))

    def test_the_same_step_twice_and_idle_steps(self):
        plan = lock_house(5, ["a"], "a", [("a", 1, 3, (0, 1, 2, 3))])
        machine = Machine(plan, Tables.plain(5), [2, 3, 2])
        # The sources: the row to k.a, the letter to the lock, its guess.
        guess, key = (2, ()), (1, (((0, 1),),))
        cost = trial_steps(3, 2)
        tried = [stretch(5, machine.tables.up, machine.tables.down, password=x, salt=1, length=3) for x in [0, 1, 2,
            3]].index(machine.number_of("w.a")) + 1
        for steps, last, number in [
            ((guess, key), ((1, 1),), 2), ((guess, guess, key), ((2, 1),), 2), ((guess, guess), ((0, 2), (1, 3)), 0),
            ((guess,), (), 0),
            ((guess, key, (0, (((1, 1),),))), ((2, 1),), 3),
        ]:
            self.assertEqual(rob(machine, steps, last, guessed=["w.a"], cells=2), (number, tried * cost))
        self.assertEqual(rob(machine, (), (), guessed=["w.a"], cells=2), (0, 0))

    def test_the_first_and_only_the_last_candidate_fit(self):
        locks = [("a", 0, 4, (4, 2, 0))]
        plan = lock_house(5, ["a"], "a", locks)
        tables = Tables(5, up=[1, 2, 3, 4, 0], down=[0, 1, 2, 3, 4], pads=[3, 1, 4, 0, 2], tags=[2, 0, 4, 1, 3])
        told = [stretch(5, tables.up, tables.down, password=x, salt=0, length=4) for x in (4, 2, 0)]
        _, _, _, steps, last = judge(plan, guessed=["w.a"])
        for draw in range(3):
            machine = Machine(plan, tables, [1, 2, draw])
            tried = told.index(told[draw]) + 1
            self.assertEqual(rob(machine, steps, last, guessed=["w.a"], cells=1), (2, tried * trial_steps(4, 1)))

    def test_two_locks_with_equal_salt_and_length_share_their_trials(self):
        chance = random.Random(293)
        plan = lock_house(7, ["a", "b"], TWO, [("a", 2, 3, (1, 2, 3)), ("b", 2, 3, (3, 2, 5))])
        _, _, _, steps, last = judge(plan, guessed=["w.a", "w.b"])
        for draws in itertools.product([0, 1, 2], repeat=2):
            for _ in range(5):
                tables = random_tables(chance, 7)
                machine = Machine(plan, tables, [chance.randrange(7) for _ in range(4)] + list(draws))
                number, made = rob(machine, steps, last, guessed=["w.b", "w.a", "w.b"], cells=2)
                tried = set()
                for slot, candidates in [("w.a", (1, 2, 3)), ("w.b", (3, 2, 5))]:
                    told = [stretch(7, tables.up, tables.down, password=x, salt=2, length=3) for x in candidates]
                    tried |= set(candidates[:told.index(machine.number_of(slot)) + 1])
                self.assertEqual((number, made), (machine.number_of("s"), len(tried) * trial_steps(3, 2)))

    def test_a_guess_with_other_needs_on_both_sides(self):
        chance = random.Random(294)
        plan = Plan(
            5, start=Deed("start", renews=["k", "j", "w", "s"], tells=[e("k"), e("j")],
                letters=[((e("j"), e("w"), e("k")), (), True)]),
            locks=[("w", 1, 2, (3, 1, 4, 0))], roads=[("s", None)],
        )
        rules = [rule for _, _, rule in sources(plan, (), guessed=["w"])]
        steps, last = find_paper(5, rules, e("w#0"))
        self.assertEqual(steps, ((0, ()), (1, ()), (3, (((1, 1),), ((0, 1),)))))
        for _ in range(40):
            machine = Machine(plan, random_tables(chance, 5), [chance.randrange(20) for _ in range(4)])
            self.assertEqual(rob(machine, steps, last, guessed=["w"], cells=3)[0], machine.number_of("w"))

    def test_the_price_is_the_most_and_is_reached(self):
        chance = random.Random(295)
        reached = {True: 0, False: 0}
        plans = [tiny_plan(chance, chance.choice([1, 2, 2])) for _ in range(300)]
        for _ in range(60):
            devices = list("abc")[:chance.randint(1, 3)]
            locks = [(d, chance.randrange(2), chance.choice([1, 2, 3]),
                tuple(chance.sample(range(7), chance.randint(1, 4)))) for d in devices]
            plans.append(lock_house(7, devices, random_formula(chance, devices, 2), locks))
        for plan in plans:
            cells = chance.randint(1, 3)
            answer = price(plan, cells=cells)
            if answer[0] == "none" or answer[1] == 0:
                continue
            _, cost, chosen, (_, course, secret, steps, last), _ = answer
            for _ in range(6):
                tables = random_tables(chance, plan.p)
                last_ones = chance.random() < 0.6
                draws = [chance.randrange(50) for _ in range(40)]
                slots = list(plan.slots) + [x for name in course for x in plan.deed_named(name).renews]
                counts = {slot: len(candidates) for slot, _, _, candidates in plan.locks}
                if last_ones:
                    draws = [counts[x] - 1 if x in counts else draw for x, draw in zip(slots, draws)]
                machine = machine_behind(plan, tables, course, draws)
                number, made = rob(machine, steps, last, guessed=chosen, cells=cells)
                self.assertEqual(number, machine.number_of(secret))
                self.assertLessEqual(made, cost)
                differ = all(
                    len({stretch(plan.p, tables.up, tables.down, password=x, salt=salt,
                        length=length) for x in candidates}) == len(candidates)
                    for slot, salt, length, candidates in plan.locks if slot in chosen
                )
                if last_ones and differ:
                    self.assertEqual(made, cost)
                reached[made == cost] += 1
        self.assertGreater(min(reached.values()), 40)

    def test_bad_steps(self):
        plan = lock_house(5, ["a"], "a", [("a", 1, 3, (0, 1, 2, 3))])
        machine = Machine(plan, Tables.plain(5), [2, 3, 2])
        guess, key = (2, ()), (1, (((0, 1),),))
        for steps, last, guessed, at in [
            ((guess, key), ((1, 1),), [], 0), ((guess, (3, ())), (), ["w.a"], 1), ((guess, (1, ())), (), ["w.a"], 1),
            ((guess, (1, (((0, 2),),))), (), ["w.a"], 1), ((guess, (1, (((1, 1),),))), (), ["w.a"], 1),
            ((key,), (), ["w.a"], 0),
            ((guess, key), ((2, 1),), ["w.a"], 2), ((guess, key), ((1, 0),), ["w.a"], 2), ((guess, key), ((1, 5),), ["w.a"], 2),
            ((guess, key), ((1, 1), (0, 1)), ["w.a"], 2), ((guess, key), ((1, 1), (1, 1)), ["w.a"], 2),
            ((), ((0, 1),), ["w.a"], 0),
            ((guess, key), ((1, True),), ["w.a"], 2), ((guess, key), ((-1, 1),), ["w.a"], 2),
            ((guess, (1, (((0, 1),), ()))), (), ["w.a"], 1),
        ]:
            check_raises(self, BadStep, {"at": at}, lambda: rob(machine, steps, last, guessed=guessed, cells=1))

    def test_refusals(self):
        plan = lock_house(5, ["a"], "a", [("a", 1, 3, (0, 1, 2, 3))])
        machine = Machine(plan, Tables.plain(5), [2, 3, 2])
        for name in NO_LOCKS:
            check_raises(self, UnknownName, {"name": name},
                lambda: rob(machine, ((9, ()),), (), guessed=["w.a", name], cells=0))
        for cells in BAD_CELLS:
            check_raises(self, BadCells, {"cells": cells}, lambda: rob(machine, ((9, ()),), (), guessed=["w.a"], cells=cells))

    def test_the_machine_stays_as_it_was(self):
        plan = lock_house(5, ["a"], "a", [("a", 1, 3, (0, 1, 2, 3))])
        machine = Machine(plan, Tables.plain(5), [2, 3, 2, 7])
        _, _, _, steps, last = judge(plan, guessed=["w.a"])
        before = (machine.record(), machine.dated_world(), machine.draws_left)
        one = rob(machine, steps, last, guessed=["w.a"], cells=2)
        self.assertEqual(rob(machine, list(steps), list(last), guessed=("w.a",), cells=2), one)
        self.assertEqual((machine.record(), machine.dated_world(), machine.draws_left), before)


class Friends(unittest.TestCase):
    def test_written_out(self):
        plan = mend_house(5, ["a", "b"], TWO)
        machine = Machine(plan, Tables.plain(5), [1, 2, 3, 4, 0, 3, 2])
        for lot in [["a", "b"], ("b", "a", "b")]:
            self.assertEqual(friend_number(machine, lot, "s"), 4)
        self.assertEqual(friend_number(machine, ["a"], "k.a"), 1)
        check_raises(self, NotHeld, {"form": e("s")}, lambda: friend_number(machine, ["a"], "s"))
        check_raises(self, NotHeld, {"form": e("k.b")}, lambda: friend_number(machine, ["a"], "k.b"))
        check_raises(self, NotHeld, {"form": e("k.a")}, lambda: friend_number(machine, [], "k.a"))
        machine.do("take.a")
        # Whether the devices are in is not asked.
        self.assertEqual(friend_number(machine, ["b", "a"], "s"), 4)
        machine.do("mend")
        self.assertEqual((friend_number(machine, ["a", "b"], "s"), friend_number(machine, ["a"], "k.a"),
            friend_number(machine, ["b"], "k.b")), (4, 0, 3))

    def test_refusals(self):
        machine = Machine(mend_house(5, ["a", "b"], TWO), Tables.plain(5), [1, 2, 3, 4])
        for slot in ["x", "o.a", "k.a~", "s#0", "", None, 0, ["s"]]:
            check_raises(self, UnknownName, {"name": slot}, lambda: friend_number(machine, ["x"], slot))
        for name in ["x", "k.a", "o.a", "", None, 0, ["a"], ("a",)]:
            check_raises(self, Stranger, {"name": name}, lambda: friend_number(machine, ["a", name, "y"], "s"))
            check_raises(self, Stranger, {"name": name}, lambda: friend_number(machine, (name,), "s"))

    def test_against_all_lots(self):
        chance = random.Random(296)
        found = {True: 0, False: 0}
        for _ in range(200):
            plan = tiny_plan(chance, chance.randint(0, 1))
            machine = random_machine(chance, plan, 4)
            board = first_board(plan)
            for name in machine.course_done:
                board = board_after(plan, board, name)
            for lot in lots_plainly([device[0] for device in plan.devices]):
                space = close(plan.p, lot_rules(plan, board, lot))
                for slot in plan.slots:
                    if e(slot) in space:
                        self.assertEqual(friend_number(machine, list(lot)[::-1], slot), machine.number_of(slot))
                    else:
                        check_raises(self, NotHeld, {"form": e(slot)}, lambda: friend_number(machine, lot, slot))
                    found[e(slot) in space] += 1
        self.assertGreater(min(found.values()), 60)

    def test_quiet_letters_are_posted_to_friends(self):
        plan = refresh_house(5, ["a", "b"], TWO)
        machine = machine_behind(plan, Tables.plain(5), ["refresh"], [1, 2, 3, 4, 0])
        self.assertEqual(friend_number(machine, ["a", "b"], "s"), 4)

    def test_arguments_stay(self):
        machine = Machine(mend_house(5, ["a", "b"], TWO), Tables.plain(5), [1, 2, 3, 4])
        lot = ["b", "a", "b"]
        friend_number(machine, lot, "s")
        self.assertEqual(lot, ["b", "a", "b"])


if __name__ == "__main__":
    unittest.main()
