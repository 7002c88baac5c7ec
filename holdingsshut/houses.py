"""Houses: plans that are built from few data."""

from holdingsshut.forms import unit
from holdingsshut.formulas import check_formula, check_formula_or_none
from holdingsshut.kits import (
    SECRET, any_of, barred_by, key_slot, lock_slot, marks_formula, mended_slots, message_slot, need_kept, out_mark,
    row_letters, rule_letters, take_deed,
)
from holdingsshut.leases import is_leased, lease_keys, lease_rules, time_key, time_slots
from holdingsshut.plans import Deed, Plan
from holdingsshut.primes import need_prime
from holdingsshut.renewed import difference_rows
from holdingsshut.rows import formula_rows
from holdingsshut.trees import check_tree, leaves, letters_to, nodes, tree_letters

DUE = "due"
HOLDER = "v"
ROOT = "t"


def mend_house(
    p, devices, formula, *, road=None, guard=None, keys_new=True, masks_new=True, secret_new=False
):
    """The house in which one deed hands out all devices again and renews what is told."""
    _check_kinds(p, formula, road)
    check_formula_or_none(guard)
    rows, masks = formula_rows(p, formula)
    keys, outs, letters = _keys(devices), _outs(devices), row_letters(rows)
    renews = _if_true(keys_new, keys) + _if_true(masks_new, list(masks)) + _if_true(secret_new, [SECRET])
    posted = _if_true(keys_new or masks_new or secret_new, list(letters))
    bars = _over_marks(guard)
    deeds = [take_deed(d, _key_drawer(d), unless=barred_by([out_mark(d)], bars)) for d in devices]
    deeds.append(Deed("mend", clears=outs, renews=renews, letters=posted, hands=devices))
    return Plan(
        p, start=_start(keys + list(masks) + [SECRET], letters), marks=outs, devices=_plain_devices(devices),
        roads=[(SECRET, _over_marks(road))], promises=[(SECRET, formula, None)], deeds=deeds,
    )


def refresh_house(p, devices, formula, *, road=None, quiet=True, strict=True):
    """The house that stores rows in devices and renews the masks by their differences."""
    _check_kinds(p, formula, road)
    rows, masks = formula_rows(p, formula)
    outs = _outs(devices)
    drawers = {d: _key_drawer(d) + [f for holder, f in rows if holder == d] for d in devices}
    letters = row_letters(difference_rows(p, rows, masks), heard=not quiet)
    deeds = [take_deed(d, drawers[d], unless=_refresh_bar(d, strict)) for d in devices]
    deeds.append(Deed("found", when=any_of(*outs), clears=outs, sets=[DUE], hands=devices))
    deeds.append(Deed("refresh", unless=any_of(*outs), clears=[DUE], renews=masks, letters=letters))
    return Plan(
        p, start=_start(_keys(devices) + list(masks) + [SECRET], ()), marks=outs + [DUE],
        devices=[(d, drawers[d], out_mark(d)) for d in devices],
        roads=[(SECRET, _over_marks(road))], promises=[(SECRET, formula, None)], deeds=deeds,
    )


def tree_house(p, tree, *, kept=()):
    """The house of a tree whose keys above a lost leaf are renewed."""
    need_prime(p)
    check_tree(tree)
    need_kept(tree, kept)
    devices, found = leaves(tree), nodes(tree)
    outs = _outs(devices)
    kept_for = dict(kept)
    deeds = [take_deed(d, _key_drawer(d), unless=any_of(*outs)) for d in devices]
    deeds.extend([_tree_mend(tree, found, d, kept_for.get(d)) for d in devices])
    slots = _keys(devices) + [key for key, _, _ in found] + [SECRET]
    return Plan(
        p, start=_start(slots, _with_secret(tree_letters(tree))), marks=outs, devices=_plain_devices(devices),
        roads=[(SECRET, any_of(*outs))], promises=[(SECRET, any_of(*devices), None)], deeds=deeds,
    )


def lease_house(p, height, way, leases):
    """The house of one device whose key opens the keys of its leases."""
    need_prime(p)
    held = [key for first, last in leases for key in lease_keys(height, way, first, last)]
    times = list(range(1 << height))
    letters = [((unit(time_key(height, way, at)),), unit(message_slot(at))) for at in times]
    letters.extend([((unit(key_slot(HOLDER)),), unit(key)) for key in held])
    slots = [key_slot(HOLDER)] + time_slots(height, way) + [message_slot(at) for at in times]
    leased = [at for at in times if is_leased(at, leases)]
    mark = out_mark(HOLDER)
    return Plan(
        p, start=_start(slots, rule_letters(letters)), marks=[mark], devices=_plain_devices([HOLDER]),
        standing=lease_rules(height, way),
        roads=[(message_slot(at), mark if at in leased else None) for at in times],
        promises=[(message_slot(at), HOLDER, None) for at in leased],
        deeds=[take_deed(HOLDER, _key_drawer(HOLDER), unless=mark)],
    )


def lock_house(p, devices, formula, locks):
    """The house without deeds in which passwords open the keys of some devices."""
    rows, masks = formula_rows(p, formula)
    opened = [((unit(lock_slot(lock[0])),), unit(key_slot(lock[0]))) for lock in locks]
    slots = _keys(devices) + list(masks) + [SECRET] + [lock_slot(lock[0]) for lock in locks]
    return Plan(
        p, start=_start(slots, row_letters(rows) + rule_letters(opened)),
        devices=[(d, _key_drawer(d), None) for d in devices],
        locks=[(lock_slot(d), salt, length, candidates) for d, salt, length, candidates in locks],
        roads=[(SECRET, None)], promises=[(SECRET, formula, None)],
    )


def _check_kinds(p, formula, road):
    need_prime(p)
    check_formula(formula)
    check_formula_or_none(road)


def _if_true(told, items):
    """The list of the items if the flag is set, otherwise none."""
    if told:
        return items
    return []


def _keys(devices):
    return [key_slot(d) for d in devices]


def _outs(devices):
    return [out_mark(d) for d in devices]


def _key_drawer(device):
    return [unit(key_slot(device))]


def _plain_devices(devices):
    """Devices that store their own key alone."""
    return [(d, _key_drawer(d), out_mark(d)) for d in devices]


def _over_marks(formula):
    """The road or guard over devices, written over their out marks; None stays None."""
    if formula is None:
        return None
    return marks_formula(formula)


def _refresh_bar(device, strict):
    """What bars the loss of a device in the refresh house."""
    if strict:
        return any_of(out_mark(device), DUE)
    return out_mark(device)


def _start(slots, letters):
    return Deed("start", renews=slots, letters=letters)


def _with_secret(rules):
    """The letters of the rules, and behind them the one that carries the secret to the root."""
    return rule_letters(rules + [((unit(ROOT),), unit(SECRET))])


def _tree_mend(tree, found, device, kept):
    """The deed that renews what a lost leaf could open, but for the slot that is kept for it."""
    renews = [slot for slot in mended_slots(tree, device) if slot != kept]
    letters = letters_to([node for node in found if device in node[2]])
    return Deed(
        "mend." + device, when=out_mark(device), clears=[out_mark(device)], renews=renews,
        letters=_with_secret(letters), hands=[device],
    )
