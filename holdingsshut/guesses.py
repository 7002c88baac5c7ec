"""Guesses: the cost of trying passwords, and trials that are made once each."""

from holdingsshut.chains import check_table
from holdingsshut.errors import UnknownName
from holdingsshut.lots import parts_of
from holdingsshut.pebbles import least_steps, move_list, need_cells, run_moves
from holdingsshut.primes import need_prime


def trial_steps(length, cells):
    """The cost of one trial: the ups, and one fold for each read."""
    return least_steps(length, cells) + length


def need_lock_slots(locks, chosen):
    """Raise UnknownName for the first chosen slot that no lock has."""
    slots = [lock[0] for lock in locks]
    for slot in chosen:
        if slot not in slots:
            raise UnknownName(slot)


def guess_cost(locks, chosen, *, cells):
    """The cost of the set of the locks whose slots are chosen."""
    need_cells(cells)
    need_lock_slots(locks, chosen)
    # Locks with equal salt and length share the trials of their common candidates.
    tried = {}
    for slot, salt, length, candidates in locks:
        if slot in chosen:
            tried.setdefault((salt, length), []).extend(candidates)
    return sum([len(set(tried[pair])) * trial_steps(pair[1], cells) for pair in tried])


def ordered_lock_sets(locks, cells):
    """The pairs (cost, lot of slots) of all sets of the locks: by cost, then by count, then as tuples."""
    lots = parts_of(sorted([lock[0] for lock in locks]))
    places = [(guess_cost(locks, lot, cells=cells), at, lot) for at, lot in enumerate(lots)]
    return [(cost, lot) for cost, _, lot in sorted(places)]


class Trials:
    """Trials on two tables, called as trials(salt, length, candidate)."""

    def __init__(self, p, up, down, *, cells):
        self._p = need_prime(p)
        self._up = check_table(p, up, "up")
        self._down = check_table(p, down, "down")
        need_cells(cells)
        self._cells = cells
        self._made = {}
        self._steps = 0

    @property
    def steps(self):
        """The cost of all different trials so far."""
        return self._steps

    def __call__(self, salt, length, candidate):
        trial = (salt, length, candidate)
        if trial not in self._made:
            self._made[trial] = self._run(length, (candidate + salt) % self._p)
        return self._made[trial]

    def _run(self, length, start):
        """The stretch from the start number; its steps are counted."""
        moves = move_list(length, self._cells)
        told, ups = run_moves(
            self._p, self._up, self._down, moves, start=start, length=length, cells=self._cells)
        self._steps += ups + length
        return told
