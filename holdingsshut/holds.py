"""Holds: what somebody has, that is, a closed space and the boxes that are not yet open."""

from holdingsshut.forms import normal, renamed
from holdingsshut.formulas import lot_of
from holdingsshut.rules import close_on, fire, names_in, renamed_rule, rule_names
from holdingsshut.spaces import Space


class Hold:
    """The closure of forms under rules, and boxes that stand for the rules."""

    def __init__(self, p, forms, rules):
        self.p = p
        self.basis = tuple(close_on(p, forms, rules))
        # Made of its basis, the space has mixes of one pair each, which keeps reaches cheap.
        self._space = Space.over(p, self.basis)
        self.boxes = _boxes(self._space, [], rules)

    def __contains__(self, f):
        return f in self._space

    @property
    def hold_names(self):
        """The ascending tuple of the names in the basis and in the boxes."""
        return lot_of(names_in(self.basis) + [name for box in self.boxes for name in rule_names(box)])

    def reach(self, forms):
        """The closure of the basis and the forms under the boxes."""
        return _reach_on(self._space, forms, self.boxes)

    def entails(self, needs, gives):
        """True if the form `gives` is in the reach of the needs."""
        return gives in self.reach(needs)

    def with_boxes(self, sound, rules):
        """The hold of the same space with boxes and rules in place of its own boxes.

        The space must be closed under all of them, and none of the boxes idle
        beside the other boxes and the rules.
        """
        other = Hold(self.p, self.basis, [])
        other.boxes = _boxes(self._space, sound, rules)
        return other


def _reach_on(space, forms, rules):
    """The closure of a space and more forms under the rules, as a new Space."""
    known = space.clone()
    for f in forms:
        known.add(f)
    fire(known, rules)
    return known


def _boxes(space, sound, rules):
    """Boxes none of which is idle on a closed space, for sound ones and rules; the sound ones stay."""
    kept = [_plain_box(space, box) for box in sound]
    plain = [_plain_box(space, rule) for rule in rules]
    # A box with fewer needs opens sooner, so it rather makes others idle.
    for box in sorted(plain, key=_count_of_needs):
        if not _is_idle(space, box, kept):
            kept.append(box)
    # A later box may have made an earlier one idle.
    added = kept[len(sound):]
    for box in added:
        others = [other for other in kept if other != box]
        if _is_idle(space, box, others):
            kept = others
    return tuple(kept)


def _plain_box(space, box):
    """The same box on the space, with the fewest needs, and without what they bring in what it gives."""
    needs, gives = box
    inside = Space.over(space.p, [space.reduce(need) for need in needs])
    rest = inside.reduce(space.reduce(gives))
    return tuple(inside), normal(space.p, rest)


def _count_of_needs(box):
    return len(box[0])


def _is_idle(space, box, others):
    """True if the needs of the box bring what it gives under the others."""
    needs, gives = box
    return gives == () or gives in _reach_on(space, needs, others)


def covers(big, small):
    """True if the big hold has, and can come to, what the small one has and can come to."""
    if not all([f in big for f in small.basis]):
        return False
    return all([big.entails(needs, gives) for needs, gives in small.boxes])


def alike(first, second):
    """True if each hold covers the other."""
    return covers(first, second) and covers(second, first)


def extended(hold, forms, rules):
    """The hold with more forms and rules."""
    return Hold(hold.p, list(hold.basis) + list(forms), list(hold.boxes) + list(rules))


def renamed_hold(hold, table):
    """The hold with names replaced as the dict tells; no two names meet."""
    p = hold.p
    forms = [renamed(p, f, table) for f in hold.basis]
    boxes = [renamed_rule(p, box, table) for box in hold.boxes]
    return Hold(p, forms, []).with_boxes(boxes, [])
