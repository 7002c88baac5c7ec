"""Machines: plans that run on numbers."""

from holdingsshut.boards import board_after, first_board
from holdingsshut.chains import stretch
from holdingsshut.courses import (
    dates_behind, deed_at, first_dates, first_marks, first_spent, marks_behind, spent_behind,
)
from holdingsshut.errors import BadPrime, NoDraw, UnknownName
from holdingsshut.forms import dated_name, value
from holdingsshut.sealing import seal
from holdingsshut.sources import TELL, sources


class Machine:
    """A vault whose numbers are drawn, deed by deed."""

    def __init__(self, plan, tables, draws):
        if tables.p != plan.p:
            raise BadPrime(tables.p)
        self.plan = plan
        self.tables = tables
        self._draws = list(draws)
        self._used = 0
        self._need_draws(plan.slots)
        self._course = []
        self._marks = first_marks(plan)
        self._spent = first_spent(plan)
        self._dates = first_dates(plan)
        self._board = first_board(plan)
        self._world = {}
        self._renew(plan.slots)

    @property
    def marks_now(self):
        """The lot of the marks that are set."""
        return self._marks

    @property
    def spent_now(self):
        """The lot of the secrets that are spent."""
        return self._spent

    @property
    def course_done(self):
        """The names of the deeds done so far."""
        return tuple(self._course)

    @property
    def draws_left(self):
        """How many draws no slot has taken."""
        return len(self._draws) - self._used

    def do(self, name):
        """Do the deed."""
        deed = deed_at(self.plan, self._marks, len(self._course), name)
        self._need_draws(deed.renews)
        self._spent = spent_behind(self.plan, deed, self._marks, self._spent)
        self._marks = marks_behind(deed, self._marks)
        self._dates = dates_behind(self._dates, deed)
        self._board = board_after(self.plan, self._board, deed.name)
        self._course.append(deed.name)
        self._renew(deed.renews)

    def _need_draws(self, slots):
        """Raise NoDraw for the first of the slots that no draw is left for."""
        left = self.draws_left
        if left < len(slots):
            raise NoDraw(slots[left])

    def _renew(self, slots):
        """Give each of the slots, at its present date, the number of the next draw."""
        for slot in slots:
            self._world[self._present_name(slot)] = self._drawn(slot, self._draws[self._used])
            self._used += 1

    def _present_name(self, slot):
        return dated_name(slot, self._dates[slot])

    def _drawn(self, slot, draw):
        """The number that the slot gets by a draw."""
        p = self.plan.p
        for name, salt, length, candidates in self.plan.locks:
            if name == slot:
                password = candidates[draw % len(candidates)]
                return stretch(p, self.tables.up, self.tables.down, password=password, salt=salt, length=length)
        return draw % p

    def number_of(self, slot):
        """The present number of the slot."""
        if slot not in self.plan.slots:
            raise UnknownName(slot)
        return self._world[self._present_name(slot)]

    def dated_world(self):
        """A new dict from each dated name so far to its number."""
        return dict(self._world)

    def present_world(self):
        """A new dict from each slot to its present number."""
        return {slot: self.number_of(slot) for slot in self.plan.slots}

    def record(self):
        """What the foe has read: a number for each tell, a box for each letter that it heard."""
        entries = []
        for _, kind, rule in sources(self.plan, self.course_done):
            if kind == TELL:
                entries.append((TELL, value(self.plan.p, rule[1], self._world)))
            else:
                entries.append(("box",) + self._boxed(rule, self._world))
        return entries

    def posted(self):
        """The pairs (rule, box) of the board."""
        world = self.present_world()
        return [(rule, self._boxed(rule, world)) for rule in self._board]

    def _boxed(self, rule, world):
        """The rule as a box on the numbers of the world."""
        needs, gives = rule
        p = self.plan.p
        return seal(self.tables, [value(p, need, world) for need in needs], value(p, gives, world))
