"""Pebbles: moves that read a chain backwards with few cells to keep its values in."""

from holdingsshut.chains import check_table, fold
from holdingsshut.errors import BadCells, BadMove
from holdingsshut.primes import choose, is_whole, lies_within


def need_cells(cells):
    """Raise BadCells unless the value is an integer of at least 1."""
    if not is_whole(cells) or cells < 1:
        raise BadCells(cells)


def rounds(length, cells):
    """The least r for which choose(cells + r, cells) exceeds the length."""
    need_cells(cells)
    many = 0
    while choose(cells + many, cells) <= length:
        many += 1
    return many


def least_steps(length, cells):
    """The least count of steps of a good move list."""
    many = rounds(length, cells)
    return many * (length + 1) - choose(cells + many, cells + 1)


def best_stop(length, cells):
    """The least value that can be kept first without losing steps."""
    need_cells(cells)
    # With one cell nothing is left for the values behind an earlier stop.
    if cells == 1:
        return length
    due = least_steps(length, cells)
    stop = 1
    while stop + least_steps(length - stop, cells - 1) + least_steps(stop - 1, cells) != due:
        stop += 1
    return stop


def move_list(length, cells):
    """A good move list with the least count of steps."""
    need_cells(cells)
    moves = []
    _write_moves(length, 0, 1, cells, moves)
    return moves


def _write_moves(length, origin, first, cells, moves):
    """Append the moves that read the values behind the cell `origin` with the cells from `first`."""
    left = length
    while left > 0:
        stop = best_stop(left, cells - first + 1)
        moves.append(("up", origin, first))
        moves.extend([("up", first, first) for _ in range(stop - 1)])
        _write_moves(left - stop, first, first + 1, cells, moves)
        moves.append(("read", first))
        left = stop - 1


def check_moves(length, cells, moves):
    """The steps of a good move list; BadMove for any other."""
    need_cells(cells)
    held = {0: 0}
    due = length
    steps = 0
    for at, move in enumerate(moves):
        if due == 0 or not _is_move(move, cells) or move[1] not in held:
            raise BadMove(at)
        index = held[move[1]]
        if move[0] == "up" and index < length:
            held[move[2]] = index + 1
            steps += 1
        elif move[0] == "read" and index == due:
            due -= 1
        else:
            raise BadMove(at)
    if due > 0:
        raise BadMove(len(moves))
    return steps


def _is_move(move, cells):
    """True if the value is written as a move over so many cells."""
    if not isinstance(move, tuple):
        return False
    if len(move) == 3 and move[0] == "up":
        return lies_within(move[1], 0, cells) and lies_within(move[2], 1, cells)
    return len(move) == 2 and move[0] == "read" and lies_within(move[1], 1, cells)


def run_moves(p, up, down, moves, *, start, length, cells):
    """The stretch from the start number, carried out by the moves alone, and the steps."""
    forward = check_table(p, up, "up")
    back = check_table(p, down, "down")
    steps = check_moves(length, cells, moves)
    held = {0: start}
    total = 0
    for move in moves:
        if move[0] == "up":
            held[move[2]] = forward[held[move[1]]]
        else:
            total = fold(p, back, total, held[move[1]])
    return total, steps
