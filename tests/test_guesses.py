"""Points [21], [23] and [25] and the interface of guesses.py."""

import itertools
import random
import unittest

from holdingsshut.errors import BadCells, BadTable, UnknownName
from holdingsshut.guesses import Trials, guess_cost, trial_steps
from tests.helpers import check_bad_primes, check_raises
from tests.test_chains import BAD_TABLES, DOWN, UP, random_tables, stretch_plainly
from tests.test_pebbles import BAD_CELLS, least_plainly

LOCKS = [("w.a", 0, 4, (1, 2, 3)), ("w.b", 0, 4, (2, 3)), ("w.c", 1, 3, (0, 1, 2, 3, 4))]


def cost_plainly(locks, chosen, cells):
    """All different trials of the chosen locks, each with its steps."""
    trials = {
        (salt, length, candidate)
        for slot, salt, length, candidates in locks if slot in chosen for candidate in candidates
    }
    return sum(least_plainly(length, cells) + length for _, length, _ in trials)


class TrialSteps(unittest.TestCase):
    def test_ups_and_one_fold_for_each_read(self):
        for cells in [1, 2, 3, 7, 119, 120]:
            for length in [1, 2, 3, 10, 59, 119, 120]:
                self.assertEqual(trial_steps(length, cells), least_plainly(length, cells) + length)
        self.assertEqual((trial_steps(4, 2), trial_steps(3, 2), trial_steps(1, 1)), (10, 7, 2))
        self.assertEqual((trial_steps(120, 1), trial_steps(120, 120)), (7260 + 120, 240))

    def test_cells_are_checked(self):
        for cells in BAD_CELLS:
            check_raises(self, BadCells, {"cells": cells}, lambda: trial_steps(3, cells))


class GuessCost(unittest.TestCase):
    def test_examples(self):
        self.assertEqual(guess_cost(LOCKS, ["w.a", "w.b"], cells=2), 30)
        self.assertEqual(guess_cost(LOCKS, ["w.b", "w.c"], cells=2), 55)

    def test_common_candidates_count_once(self):
        self.assertEqual(guess_cost(LOCKS, ["w.a"], cells=2), 30)
        self.assertEqual(guess_cost(LOCKS, ["w.b"], cells=2), 20)
        apart = [("w.a", 0, 4, (1, 2)), ("w.b", 0, 4, (3, 4))]
        self.assertEqual(guess_cost(apart, ["w.a", "w.b"], cells=2), 40)
        some = [("w.a", 0, 4, (1, 2)), ("w.b", 0, 4, [2, 3])]
        self.assertEqual(guess_cost(some, ("w.b", "w.a"), cells=2), 30)

    def test_another_salt_or_length_is_another_trial(self):
        # With 1 the salt 1 gives the start number that the salt 0 gives with 2.
        salts = [("w.a", 0, 4, (2,)), ("w.b", 1, 4, (1,))]
        self.assertEqual(guess_cost(salts, ["w.a", "w.b"], cells=2), 20)
        same = [("w.a", 0, 4, (2,)), ("w.b", 1, 4, (2,))]
        self.assertEqual(guess_cost(same, ["w.a", "w.b"], cells=2), 20)
        lengths = [("w.a", 3, 4, (2,)), ("w.b", 3, 3, (2,))]
        self.assertEqual(guess_cost(lengths, ["w.a", "w.b"], cells=2), 17)

    def test_repeated_slots_and_none(self):
        self.assertEqual(guess_cost(LOCKS, ["w.b", "w.b"], cells=2), 20)
        self.assertEqual(guess_cost(LOCKS, ["w.b", "w.c", "w.b", "w.c"], cells=2), 55)
        self.assertEqual(guess_cost(LOCKS, [], cells=2), 0)
        self.assertEqual(guess_cost([], [], cells=1), 0)

    def test_random_locks(self):
        chance = random.Random(31)
        for _ in range(150):
            locks = [
                (slot, chance.randrange(2), chance.choice([1, 2, 2, 40, 120]),
                 tuple(chance.sample(range(97), chance.choice([1, 3, 60, 97]))))
                for slot in ["w.a", "w.b", "w.c", "w.d"][:chance.randint(1, 4)]
            ]
            cells = chance.choice([1, 2, 3, 119, 120])
            for many in range(len(locks) + 1):
                for chosen in itertools.combinations([lock[0] for lock in locks], many):
                    self.assertEqual(guess_cost(locks, chosen, cells=cells), cost_plainly(locks, chosen, cells))

    def test_first_unknown_slot(self):
        for chosen, name in [(["x"], "x"), (["w.a", "w.d", "x"], "w.d"), (["y", "w.a", "x"], "y"), (["a"], "a")]:
            check_raises(self, UnknownName, {"name": name}, lambda: guess_cost(LOCKS, chosen, cells=2))
        check_raises(self, UnknownName, {"name": "w.a"}, lambda: guess_cost([], ["w.a"], cells=2))

    def test_cells_go_first(self):
        for cells in BAD_CELLS:
            check_raises(self, BadCells, {"cells": cells}, lambda: guess_cost(LOCKS, ["x"], cells=cells))
            check_raises(self, BadCells, {"cells": cells}, lambda: guess_cost([], [], cells=cells))

    def test_arguments_stay(self):
        locks, chosen = [("w.a", 0, 4, [1, 2]), ("w.b", 0, 4, [2, 3])], ["w.b", "w.a", "w.b"]
        first = guess_cost(locks, chosen, cells=3)
        self.assertEqual(guess_cost(locks, chosen, cells=3), first)
        self.assertEqual(locks, [("w.a", 0, 4, [1, 2]), ("w.b", 0, 4, [2, 3])])
        self.assertEqual(chosen, ["w.b", "w.a", "w.b"])


class RunningTrials(unittest.TestCase):
    def test_stretches(self):
        chance = random.Random(32)
        for p in [2, 3, 7, 97]:
            up, down = random_tables(chance, p)
            for cells in [1, 2, 5, 120]:
                trials = Trials(p, up, down, cells=cells)
                for length in [1, 2, 3, 20, 120]:
                    salt, candidate = chance.randrange(p), chance.randrange(p)
                    wanted = stretch_plainly(p, up, down, (salt + candidate) % p, length)
                    self.assertEqual(trials(salt, length, candidate), wanted)

    def test_steps_are_those_of_the_different_trials(self):
        trials = Trials(5, UP, DOWN, cells=2)
        self.assertEqual(trials.steps, 0)
        wanted = 0
        for told, new in [
            ((0, 4, 2), 10), ((0, 4, 2), 0), ((1, 4, 1), 10), ((0, 3, 2), 7), ((2, 4, 0), 10), ((0, 4, 2), 0),
            ((1, 4, 1), 0), ((0, 4, 3), 10), ((0, 3, 2), 0),
        ]:
            answer = trials(*told)
            wanted += new
            self.assertEqual(trials.steps, wanted)
            self.assertEqual(answer, stretch_plainly(5, UP, DOWN, (told[0] + told[2]) % 5, told[1]))

    def test_steps_agree_with_the_cost_of_locks(self):
        trials = Trials(5, UP, DOWN, cells=2)
        for _, salt, length, candidates in LOCKS:
            for candidate in candidates:
                trials(salt, length, candidate)
        self.assertEqual(trials.steps, guess_cost(LOCKS, ["w.a", "w.b", "w.c"], cells=2))

    def test_objects_know_nothing_of_each_other(self):
        first, second = Trials(5, UP, DOWN, cells=1), Trials(5, UP, DOWN, cells=3)
        first(0, 3, 1)
        self.assertEqual((first.steps, second.steps), (9, 0))
        second(0, 3, 1)
        self.assertEqual((first.steps, second.steps), (9, 6))

    def test_later_changes_of_tables_have_no_effect(self):
        up, down = list(UP), list(DOWN)
        trials = Trials(5, up, down, cells=2)
        up[:], down[:] = [0] * 5, [0] * 5
        self.assertEqual(trials(1, 6, 2), stretch_plainly(5, UP, DOWN, 3, 6))

    def test_refusals_stand_in_the_order_of_the_signature(self):
        check_bad_primes(self, lambda p: Trials(p, None, None, cells=0))
        for table in BAD_TABLES:
            check_raises(self, BadTable, {"which": "up"}, lambda: Trials(5, table, table, cells=0))
            check_raises(self, BadTable, {"which": "down"}, lambda: Trials(5, UP, table, cells=0))
        for cells in BAD_CELLS:
            check_raises(self, BadCells, {"cells": cells}, lambda: Trials(5, UP, DOWN, cells=cells))


if __name__ == "__main__":
    unittest.main()
