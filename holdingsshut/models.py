"""Models: answers for houses, found by searching states without any forms."""

from holdingsshut.formulas import check_formula, check_formula_or_none, fits_checked, lot_of
from holdingsshut.guesses import ordered_lock_sets
from holdingsshut.kits import SECRET, lock_slot, message_slot, need_kept
from holdingsshut.leases import is_leased, leased_times
from holdingsshut.pebbles import need_cells
from holdingsshut.trees import check_tree, leaves

# A state is (devices out, devices had, due, known, spent).
FIRST_STATE = ((), (), False, False, False)


def lot_model(
    devices, formula, *, road=None, guard=None, keys_new=True, masks_new=True, secret_new=False
):
    """The first shortest theft in the mend house, or None."""
    check_formula(formula)
    check_formula_or_none(road)
    check_formula_or_none(guard)
    forgets = keys_new and masks_new

    def moves(state):
        takes = []
        if guard is None or not fits_checked(guard, state[0]):
            takes = _takes(devices, formula, road, state)
        return takes + [("mend", _mended(formula, forgets, secret_new, state))]

    return _first_theft(moves)


def refresh_model(devices, formula, *, road=None, quiet=True, strict=True):
    """The first shortest theft in the refresh house, or None."""
    check_formula(formula)
    check_formula_or_none(road)

    def moves(state):
        out, had, due, known, spent = state
        found = []
        if not (strict and due):
            found = _takes(devices, formula, road, state)
        if out:
            return found + [("found", ((), had, True, known, spent))]
        return found + [("refresh", ((), () if quiet else had, False, known, spent))]

    return _first_theft(moves)


def tree_model(tree, *, kept=()):
    """The first shortest theft in the tree house, or None."""
    check_tree(tree)
    need_kept(tree, kept)
    # All slots that may be kept for a leaf, but the secret, open what its mend renews.
    slots = {device: slot for device, slot in kept if slot != SECRET}
    for device in leaves(tree):
        if device in slots:
            return "take." + device, "mend." + device
    return None


def lease_model(height, way, leases):
    """The course and the secret of the first shortest theft in the lease house, or None."""
    for at in leased_times(height, way, leases):
        if not is_leased(at, leases):
            return ("take.v",), message_slot(at)
    return None


def lock_model(devices, formula, locks, *, cells):
    """The cost and the slots of the first set of locks that brings the secret, or None."""
    check_formula(formula)
    need_cells(cells)
    named = [(lock_slot(device), salt, length, candidates) for device, salt, length, candidates in locks]
    for cost, lot in ordered_lock_sets(named, cells):
        if fits_checked(formula, [device for device in devices if lock_slot(device) in lot]):
            return cost, lot
    return None


def _takes(devices, formula, road, state):
    """For each device that is not out: the name of its loss, and the state after it."""
    out, had, due, known, spent = state
    moves = []
    for device in devices:
        if device not in out:
            lost = lot_of(out + (device,))
            more = lot_of(had + (device,))
            open_road = road is not None and fits_checked(road, lost)
            after = (lost, more, due, known or fits_checked(formula, more), spent or open_road)
            moves.append(("take." + device, after))
    return moves


def _mended(formula, forgets, secret_new, state):
    """The state after the deed that hands out all devices again."""
    _, had, due, known, spent = state
    if forgets:
        had = ()
    if secret_new:
        known = False
        spent = False
    return (), had, due, known or fits_checked(formula, had), spent


def _first_theft(moves):
    """The first of the shortest courses to a state that is known and not spent, or None."""
    courses = {FIRST_STATE: ()}
    reached = [FIRST_STATE]
    at = 0
    # States are reached in the order of their courses, shorter ones first.
    while at < len(reached):
        state = reached[at]
        for name, after in moves(state):
            if after not in courses:
                courses[after] = courses[state] + (name,)
                if after[3] and not after[4]:
                    return courses[after]
                reached.append(after)
        at += 1
    return None
