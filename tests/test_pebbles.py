"""Points [22], [23] and [24] and the interface of pebbles.py."""

import functools
import math
import random
import unittest

from holdingsshut.errors import BadCells, BadMove, BadTable
from holdingsshut.pebbles import best_stop, check_moves, least_steps, move_list, rounds, run_moves
from tests.helpers import BIG, check_bad_primes, check_raises
from tests.test_chains import BAD_TABLES, DOWN, UP, random_tables, stretch_plainly

BAD_CELLS = [0, -1, -BIG, True, False, None, 1.0, "1", b"1", [1], (1,), {1}, {1: 1}]
SOME_CELLS = [1, 2, 3, 4, 5, 8, 13, 40, 119, 120]


def least_plainly(length, cells):
    """The sum of point [23]."""
    total, q = 0, 0
    while math.comb(cells + q, cells) <= length:
        total += length + 1 - math.comb(cells + q, cells)
        q += 1
    return total


def fewest_ups(length, cells):
    """The least steps of any good move list, by a search over what cells hold and what is due."""
    costs = {((None,) * cells, length): 0}
    layer = list(costs)
    steps = 0
    while True:
        ready = []
        while layer:
            held, due = layer.pop()
            if due == 0:
                return steps
            ready.append((held, due))
            if due in held and costs.setdefault((held, due - 1), steps) == steps:
                layer.append((held, due - 1))
        steps += 1
        for held, due in ready:
            for index in {0, *[x for x in held if x is not None]}:
                for cell in range(cells):
                    if index < length:
                        after = tuple(sorted([*held[:cell], index + 1, *held[cell + 1:]], key=lambda x: -1 if x is None else x))
                        if (after, due) not in costs:
                            costs[(after, due)] = steps
                            layer.append((after, due))


@functools.lru_cache(maxsize=None)
def stop_plainly(length, cells):
    for m in range(1, length + 1):
        if cells == 1 and m < length:
            continue
        if m + least_plainly(length - m, cells - 1) * (m < length) + least_plainly(m - 1, cells) == \
                least_plainly(length, cells):
            return m
    return None


def moves_plainly(n, origin, first, cells):
    """The procedure W of point [24]."""
    moves = []
    while n >= 1:
        m = stop_plainly(n, cells - first + 1)
        moves.append(("up", origin, first))
        moves += [("up", first, first)] * (m - 1)
        moves += moves_plainly(n - m, first, first + 1, cells)
        moves.append(("read", first))
        n = m - 1
    return moves


class LeastSteps(unittest.TestCase):
    def test_examples(self):
        self.assertEqual([least_steps(n, 2) for n in [1, 2, 3, 4, 5, 6]], [1, 2, 4, 6, 8, 11])

    def test_least_steps_agree_with_the_sum(self):
        for cells in range(1, 121):
            for length in [0, 1, 2, 3, 5, 10, 33, 59, 119, 120]:
                self.assertEqual(least_steps(length, cells), least_plainly(length, cells))
        for cells in SOME_CELLS:
            for length in range(121):
                self.assertEqual(least_steps(length, cells), least_plainly(length, cells))

    def test_no_good_move_list_has_fewer_steps(self):
        for cells, most in [(1, 7), (2, 8), (3, 7), (4, 6)]:
            for length in range(most + 1):
                self.assertEqual(least_steps(length, cells), fewest_ups(length, cells), (length, cells))

    def test_edges(self):
        for cells in SOME_CELLS:
            self.assertEqual(least_steps(0, cells), 0)
            self.assertEqual(least_steps(cells, cells), cells)
        self.assertEqual(least_steps(120, 1), 7260)
        self.assertEqual(least_steps(120, 120), 120)
        self.assertEqual(least_steps(120, 119), 121)

    def test_rounds(self):
        for cells in range(1, 121):
            self.assertEqual(rounds(0, cells), 0)
            for length in [1, 2, 3, cells, cells + 1, 65, 66, 119, 120]:
                r = rounds(length, cells)
                self.assertGreaterEqual(r, 1)
                self.assertLessEqual(math.comb(cells + r - 1, cells), length)
                self.assertLess(length, math.comb(cells + r, cells))
                self.assertEqual(least_steps(length, cells), r * (length + 1) - math.comb(cells + r, cells + 1))
        self.assertEqual([rounds(n, 2) for n in range(1, 8)], [1, 1, 2, 2, 2, 3, 3])
        self.assertEqual((rounds(120, 1), rounds(120, 120), rounds(120, 119)), (120, 1, 2))

    def test_best_stop(self):
        for cells in SOME_CELLS:
            for length in range(1, 121):
                self.assertEqual(best_stop(length, cells), stop_plainly(length, cells))
        self.assertEqual([best_stop(n, 1) for n in [1, 2, 120]], [1, 2, 120])
        self.assertEqual([best_stop(n, 2) for n in range(1, 10)], [1, 1, 1, 2, 3, 3, 4, 5, 6])

    def test_counts_of_cells_are_checked(self):
        for cells in BAD_CELLS:
            for call in [least_steps, rounds, best_stop, move_list]:
                check_raises(self, BadCells, {"cells": cells}, lambda: call(3, cells))
                if call != best_stop:
                    check_raises(self, BadCells, {"cells": cells}, lambda: call(0, cells))
            check_raises(self, BadCells, {"cells": cells}, lambda: check_moves(3, cells, [None]))
            check_raises(self, BadCells, {"cells": cells}, lambda: check_moves(0, cells, []))


class MoveLists(unittest.TestCase):
    def test_example(self):
        self.assertEqual(move_list(3, 2), [
            ("up", 0, 1), ("up", 1, 2), ("up", 2, 2), ("read", 2), ("up", 1, 2), ("read", 2), ("read", 1),
        ])

    def test_move_list_is_the_one_of_the_procedure(self):
        for cells in [1, 2, 3, 4, 7, 120]:
            for length in list(range(0, 30)) + [55, 119, 120]:
                self.assertEqual(move_list(length, cells), moves_plainly(length, 0, 1, cells))

    def test_move_lists_are_good_and_have_the_least_steps(self):
        for cells in [1, 2, 3, 4, 5, 10, 119, 120]:
            for length in list(range(0, 20)) + [64, 120]:
                moves = move_list(length, cells)
                self.assertEqual(check_moves(length, cells, moves), least_steps(length, cells))
                self.assertEqual([move[0] for move in moves].count("read"), length)

    def test_length_0(self):
        self.assertEqual((move_list(0, 1), move_list(0, 120)), ([], []))
        self.assertEqual(check_moves(0, 1, []), 0)
        self.assertEqual(check_moves(0, 3, ()), 0)

    def test_more_cells_than_length(self):
        self.assertEqual(move_list(2, 5), [("up", 0, 1), ("up", 1, 2), ("read", 2), ("read", 1)])
        self.assertEqual(move_list(1, 120), [("up", 0, 1), ("read", 1)])

    def test_answers_are_new(self):
        first = move_list(3, 2)
        first.clear()
        self.assertEqual(len(move_list(3, 2)), 7)


class CheckingMoves(unittest.TestCase):
    good = [("up", 0, 1), ("up", 1, 2), ("up", 2, 2), ("read", 2), ("up", 1, 2), ("read", 2), ("read", 1)]

    def refuse(self, length, cells, moves, at):
        check_raises(self, BadMove, {"at": at}, lambda: check_moves(length, cells, moves))
        if cells < 5 and length < 9:
            check_raises(self, BadMove, {"at": at},
                         lambda: run_moves(5, UP, DOWN, moves, start=1, length=length, cells=cells))

    def test_good_lists_that_the_program_does_not_write(self):
        self.assertEqual(check_moves(3, 2, self.good), 4)
        self.assertEqual(check_moves(3, 2, tuple(self.good)), 4)
        wasteful = [("up", 0, 2), ("up", 0, 1), ("up", 0, 1)] + self.good
        self.assertEqual(check_moves(3, 2, wasteful), 7)
        one = [("up", 0, 1), ("up", 1, 1), ("read", 1), ("up", 0, 1), ("read", 1)]
        self.assertEqual(check_moves(2, 1, one), 3)
        self.assertEqual(check_moves(2, 9, one), 3)
        two = [("up", 0, 9), ("up", 9, 3), ("up", 9, 4), ("read", 4), ("read", 9)]
        self.assertEqual(check_moves(2, 9, two), 3)

    def test_moves_that_are_none(self):
        none = [
            ["up", 0, 1], ["read", 1], "up", "read", None, 5, (), ("up",), ("read",), ("up", 0), ("up", 0, 1, 1),
            ("read", 1, 1), ("go", 0, 1), ("go", 1), (1, 1), (0, 0, 1), ("UP", 0, 1), ("up", "0", 1), ("up", 0, "1"),
            ("up", None, 1), ("up", 0, None), ("read", None), ("read", "2"), ("up", 0, 1.0), ("up", 0.0, 1), ("read", 2.0),
            ("up", False, 1), ("up", 0, True), ("up", True, 1), ("read", True), ("up", -1, 1), ("up", 3, 1), ("up", 0, 0),
            ("up", 0, 3), ("up", 0, -1), ("up", 0, BIG), ("up", BIG, 1), ("read", 0), ("read", 3), ("read", -1),
            ("read", BIG), (["up"], 0, 1), ("up", [0], 1), ("read", [2]), {"up": 1}, ("read", 0, 1), ("up", 1), None,
        ]
        for move in none:
            for at in range(len(self.good)):
                self.refuse(3, 2, self.good[:at] + [move] + self.good[at:], at)
                self.refuse(3, 2, self.good[:at] + [move], at)

    def test_every_move_of_two_cells_at_every_place(self):
        moves = [("up", a, b) for a in range(3) for b in [1, 2]] + [("read", 1), ("read", 2)]
        for at in range(len(self.good) + 1):
            held, due = {0: 0}, 3
            for move in self.good[:at]:
                if move[0] == "up":
                    held[move[2]] = held[move[1]] + 1
                else:
                    due -= 1
            for move in moves:
                known = move[1] in held
                fine = due > 0 and known and (held[move[1]] < 3 if move[0] == "up" else held[move[1]] == due)
                if not fine:
                    self.refuse(3, 2, self.good[:at] + [move] + self.good[at:], at)

    def test_empty_cells_and_values_that_are_not_due(self):
        self.refuse(3, 2, [("up", 1, 1)], 0)
        self.refuse(3, 2, [("up", 0, 1), ("up", 2, 1)], 1)
        self.refuse(3, 2, [("read", 1)], 0)
        self.refuse(2, 2, [("up", 0, 1), ("read", 1)], 1)
        self.refuse(1, 1, [("up", 0, 1), ("up", 1, 1)], 1)
        self.refuse(2, 2, [("up", 0, 1), ("up", 1, 2), ("up", 2, 1)], 2)
        self.refuse(2, 2, [("up", 0, 1), ("up", 1, 2), ("read", 2), ("read", 2)], 3)
        # A value that was written over is lost.
        self.refuse(2, 1, [("up", 0, 1), ("up", 1, 1), ("read", 1), ("read", 1)], 3)
        self.refuse(2, 2, [("up", 0, 1), ("up", 1, 2), ("up", 0, 2), ("read", 2)], 3)

    def test_moves_behind_the_last_read(self):
        for move in [("up", 0, 1), ("read", 1), ("read", 2), None]:
            self.refuse(3, 2, self.good + [move], 7)
            self.refuse(3, 2, self.good + [move, None], 7)
            for cells in [1, 2, 4]:
                self.refuse(0, cells, [move], 0)
                self.refuse(0, cells, [move] + self.good, 0)

    def test_lists_that_are_cut_off(self):
        for many in range(len(self.good)):
            self.refuse(3, 2, self.good[:many], many)
        self.refuse(1, 1, [], 0)
        self.refuse(120, 3, move_list(120, 3)[:-1], len(move_list(120, 3)) - 1)

    def test_long_lists_for_another_length_or_fewer_cells(self):
        moves = move_list(60, 4)
        self.refuse(61, 4, moves, moves.index(("read", 4)))
        self.refuse(60, 3, moves, moves.index(("up", 3, 4)))
        self.assertEqual(check_moves(60, 5, moves), least_steps(60, 4))

    def test_values_count_by_their_index_not_by_their_number(self):
        same = [0] * 5
        moves = [("up", 0, 1), ("read", 1)]
        check_raises(self, BadMove, {"at": 1}, lambda: run_moves(5, same, same, moves, start=0, length=2, cells=1))

    def test_moves_stay_as_they_were(self):
        moves = list(self.good)
        check_moves(3, 2, moves)
        run_moves(5, UP, DOWN, moves, start=1, length=3, cells=2)
        self.assertEqual(moves, self.good)


class RunningMoves(unittest.TestCase):
    def test_run_agrees_with_the_stretch(self):
        chance = random.Random(25)
        for p in [2, 3, 5, 97]:
            for length, cells in [(1, 1), (2, 1), (3, 2), (10, 2), (30, 3), (120, 1), (120, 4), (120, 120), (7, 120)]:
                up, down = random_tables(chance, p)
                start = chance.randrange(p)
                moves = move_list(length, cells)
                wanted = (stretch_plainly(p, up, down, start, length), least_steps(length, cells))
                self.assertEqual(run_moves(p, up, down, moves, start=start, length=length, cells=cells), wanted)
                self.assertEqual(
                    run_moves(p, tuple(up), tuple(down), tuple(moves), start=start, length=length, cells=cells), wanted)

    def test_other_good_lists(self):
        moves = [("up", 0, 2), ("up", 0, 1), ("up", 1, 1), ("read", 1), ("up", 0, 1), ("read", 1)]
        answer = run_moves(5, UP, DOWN, moves, start=3, length=2, cells=2)
        self.assertEqual(answer, (stretch_plainly(5, UP, DOWN, 3, 2), 4))
        self.assertIsInstance(answer, tuple)

    def test_length_0(self):
        for start in range(5):
            self.assertEqual(run_moves(5, UP, DOWN, [], start=start, length=0, cells=1), (0, 0))
        check_raises(self, BadMove, {"at": 0},
                     lambda: run_moves(5, UP, DOWN, [("up", 0, 1)], start=0, length=0, cells=1))

    def test_refusals_stand_in_the_order_of_the_signature(self):
        def run(p, up, down, moves, cells):
            return run_moves(p, up, down, moves, start=0, length=1, cells=cells)

        check_bad_primes(self, lambda p: run(p, None, None, [None], 0))
        for table in BAD_TABLES:
            check_raises(self, BadTable, {"which": "up"}, lambda: run(5, table, table, [None], 0))
            check_raises(self, BadTable, {"which": "down"}, lambda: run(5, UP, table, [None], 0))
        for cells in BAD_CELLS:
            check_raises(self, BadCells, {"cells": cells}, lambda: run(5, UP, DOWN, [None], cells))
            check_raises(self, BadCells, {"cells": cells},
                         lambda: run_moves(5, UP, DOWN, [], start=0, length=0, cells=cells))
        check_raises(self, BadMove, {"at": 0}, lambda: run(5, UP, DOWN, [None], 1))


if __name__ == "__main__":
    unittest.main()
