"""Fading: holds that forget a number, and nothing that can be had without it."""

from holdingsshut.forms import coefficient, plus_times, times
from holdingsshut.holds import Hold
from holdingsshut.primes import inverse
from holdingsshut.rules import rule_names


def fade(hold, name):
    """The hold that names the name nowhere and has the same reach of all forms without it."""
    if name not in hold.hold_names:
        return hold
    rows = [row for row in hold.basis if coefficient(row, name)]
    if rows:
        return _fade_known(hold, name, rows[0])
    return _fade_unknown(hold, name)


def fade_all(hold, names):
    """The hold with all names of the list faded."""
    for name in names:
        hold = fade(hold, name)
    return hold


def _fade_known(hold, name, row):
    """Write the name in other names everywhere, as a known row tells it."""
    p = hold.p
    known = _scaled(p, row, name)
    forms = [_without(p, f, name, known) for f in hold.basis]
    # What a box needs or gives is changed by known forms alone, so none becomes idle.
    return Hold(p, forms, []).with_boxes([_box_without(p, box, name, known) for box in hold.boxes], [])


def _fade_unknown(hold, name):
    """Join each box that gives the name and needs it not with each that names it."""
    p = hold.p
    naming = [box for box in hold.boxes if name in rule_names(box)]
    joints = []
    for needs, gives in naming:
        if not any([coefficient(need, name) for need in needs]):
            given = _scaled(p, gives, name)
            for box in naming:
                more, rest = _box_without(p, box, name, given)
                joints.append((needs + more, rest))
    # A joint brings nothing that its two boxes did not bring, so the boxes that stay are not idle.
    return hold.with_boxes([box for box in hold.boxes if box not in naming], joints)


def _scaled(p, f, name):
    """The multiple of the form with the coefficient 1 at a name that it has."""
    return times(p, f, by=inverse(p, coefficient(f, name)))


def _without(p, f, name, known):
    """The form less the multiple of a form, scaled to the name, that takes the name away."""
    return plus_times(p, f, known, -coefficient(f, name))


def _box_without(p, box, name, known):
    needs, gives = box
    return tuple([_without(p, need, name, known) for need in needs]), _without(p, gives, name, known)
