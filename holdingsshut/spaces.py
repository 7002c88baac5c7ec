"""Spaces: sets of forms that have all sums and multiples of their forms."""

from holdingsshut.errors import Held, NotHeld
from holdingsshut.forms import coefficient, form_of, normal, plus_times
from holdingsshut.primes import inverse, need_prime


class Space:
    """A space, kept as its basis and as the accepted forms that span it."""

    def __init__(self, p):
        self.p = need_prime(p)
        self._basis = []
        # By lead: the basis row, and its mix of the accepted forms.
        self._rows = {}
        self._mixes = {}
        self._taken = []

    @classmethod
    def over(cls, p, forms):
        """The space to which the forms were added in order."""
        space = cls(p)
        for f in forms:
            space.add(f)
        return space

    def __contains__(self, f):
        return not self.reduce(f)

    def __iter__(self):
        return iter(self._basis)

    @property
    def rank(self):
        """The count of the basis rows."""
        return len(self._basis)

    def add(self, f):
        """Add the form and all sums; True if the rank grew."""
        rest = self.reduce(f)
        if not rest:
            return False
        own = ((len(self._taken), 1),)
        mix = plus_times(self.p, own, self._mix_of_leads(f), -1)
        by = inverse(self.p, rest[0][1])
        self._settle(normal(self.p, rest), plus_times(self.p, (), mix, by))
        self._taken.append(f)
        return True

    def _mix_of_leads(self, f):
        """The mix of what the reduction takes away from the form."""
        totals = {}
        for name, number in f:
            for index, part in self._mixes.get(name, ()):
                totals[index] = totals.get(index, 0) + number * part
        return form_of(self.p, totals)

    def _settle(self, row, mix):
        """Put a reduced row into its place and clear its lead out of the rows before it."""
        lead = row[0][0]
        at = 0
        # A row with a greater lead has no name as small as this one.
        while at < len(self._basis) and self._basis[at][0][0] < lead:
            self._clear(at, row, mix)
            at += 1
        self._basis.insert(at, row)
        self._rows[lead] = row
        self._mixes[lead] = mix

    def _clear(self, at, row, mix):
        """Take the lead of the new row out of the basis row number `at`."""
        old = self._basis[at]
        by = -coefficient(old, row[0][0])
        if by == 0:
            return
        lead = old[0][0]
        self._rows[lead] = plus_times(self.p, old, row, by)
        self._basis[at] = self._rows[lead]
        self._mixes[lead] = plus_times(self.p, self._mixes[lead], mix, by)

    def reduce(self, f):
        """The only form that differs from f by a form of the space and names no lead."""
        left = dict(f)
        for name, number in f:
            for other, part in self._rows.get(name, ()):
                left[other] = left.get(other, 0) - number * part
        return form_of(self.p, left)

    def blind(self, f):
        """The blind shift: it moves f by 1 and no form of the space."""
        rest = self.reduce(f)
        if not rest:
            raise Held(f)
        free, number = rest[0]
        by = inverse(self.p, number)
        shift = {free: by}
        for row in self._basis:
            shift[row[0][0]] = -coefficient(row, free) * by
        return form_of(self.p, shift)

    def accepted(self):
        """The list of the accepted forms, in order."""
        return list(self._taken)

    def mix(self, f):
        """The mix of the accepted forms that gives f."""
        if self.reduce(f):
            raise NotHeld(f)
        return self._mix_of_leads(f)

    def within(self, names):
        """The space of all forms whose names all lie in the list."""
        inside = {name: True for name in names}
        # A row whose lead lies outside stands in no sum that stays inside:
        # no other row has its lead.
        rows = [row for row in self._basis if row[0][0] in inside]
        outside = [name for row in rows for name, _ in row if name not in inside]
        for name in sorted(set(outside)):
            rows = _rows_without(self.p, rows, name)
        return Space.over(self.p, list(Space.over(self.p, rows)))

    def clone(self):
        """The same space with the same accepted forms, independent of this one."""
        other = Space(self.p)
        other._basis = list(self._basis)
        other._rows = dict(self._rows)
        other._mixes = dict(self._mixes)
        other._taken = list(self._taken)
        return other


def _rows_without(p, rows, name):
    """Forms that span those forms of the rows' span that lack the name."""
    giver = None
    kept = []
    for row in rows:
        number = coefficient(row, name)
        if number == 0:
            kept.append(row)
        elif giver is None:
            giver = plus_times(p, (), row, inverse(p, number))
        else:
            kept.append(plus_times(p, row, giver, -number))
    return kept
