"""Kits: the names, formulas, deeds and letters that houses are built from."""

from holdingsshut.errors import TwiceNamed, UnknownName
from holdingsshut.forms import unit
from holdingsshut.formulas import check_formula, check_formula_or_none
from holdingsshut.plans import Deed
from holdingsshut.trees import above

SECRET = "s"


def key_slot(device):
    """The slot of the device's key."""
    return "k." + device


def out_mark(device):
    """The mark that is set while the device is out."""
    return "o." + device


def lock_slot(device):
    """The slot of the lock that opens the device's key."""
    return "w." + device


def message_slot(at):
    """The slot of what the key of the time opens."""
    return f"m.{at}"


def any_of(*names):
    """The formula that any of the names fits; None for no name."""
    if not names:
        return None
    if len(names) == 1:
        return names[0]
    return 1, names


def barred_by(names, formula):
    """The formula that any of the names fits, and any lot that fits another formula."""
    check_formula_or_none(formula)
    if formula is None:
        return any_of(*names)
    return any_of(*names, formula)


def marks_formula(formula):
    """The formula over devices, written over their out marks."""
    check_formula(formula)
    return _marks_part(formula)


def _marks_part(part):
    if isinstance(part, str):
        return out_mark(part)
    k, places = part
    return k, tuple([_marks_part(place) for place in places])


def take_deed(device, drawer, *, unless=None):
    """The deed by which the device gets lost and the foe is told what it stores."""
    return Deed("take." + device, unless=unless, sets=(out_mark(device),), tells=drawer)


def row_letters(rows, *, heard=True):
    """The letters that carry each row to its holder."""
    return rule_letters([((unit(key_slot(holder)),), f) for holder, f in rows], heard=heard)


def rule_letters(rules, *, heard=True):
    """The letters that carry what the rules give."""
    return tuple([(needs, gives, heard) for needs, gives in rules])


def mended_slots(tree, device):
    """What a tree house renews for a leaf of which nothing is kept; Stranger if it is none."""
    return [key_slot(device)] + above(tree, device) + [SECRET]


def need_kept(tree, kept):
    """Raise the refusal of the first bad pair (device, slot) of what a tree house keeps."""
    seen = []
    for device, slot in kept:
        # A device that is no leaf never stands before, and it has no slots: it is a Stranger.
        if device in seen:
            raise TwiceNamed(device)
        if slot not in mended_slots(tree, device):
            raise UnknownName(slot)
        seen.append(device)
