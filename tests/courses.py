"""Courses of plans, read plainly: what is allowed, what is spent, what the foe knows."""

from holdingsshut.rules import close
from tests.helpers import fits_plainly


def is_allowed(deed, marks):
    return (deed.when is None or fits_plainly(deed.when, marks)) and \
        (deed.unless is None or not fits_plainly(deed.unless, marks))


def guess_rules(plan, needs, guessed):
    """The rule that guesses a lock among the needs, if one is guessed."""
    for need in needs:
        if len(need) == 1 and need[0][0] in guessed:
            return [(tuple(x for x in needs if x != need), need)]
    return []


def moment(plan, deed, dates, first, guessed):
    """What the foe gets at one instant, over dated names."""
    def dated(f):
        return tuple(sorted(
            (f"{x[:-1]}#{dates[x[:-1]] - 1}" if x.endswith("~") else f"{x}#{dates[x]}", n) for x, n in f
        ))

    rules = [
        (needs, gives) for needs, gives in plan.standing
        if first or any(x in deed.renews for f in needs + (gives,) for x, _ in f)
    ]
    rules += [((), f) for f in deed.tells]
    for needs, gives, heard in deed.letters:
        if heard:
            rules += [(needs, gives)] + guess_rules(plan, needs, guessed)
    return [(tuple(dated(need) for need in needs), dated(gives)) for needs, gives in rules]


class Course:
    """Where a course has led."""

    def __init__(self, plan, guessed=()):
        self.plan, self.guessed = plan, guessed
        self.names = ()
        self.marks = set(plan.start.sets)
        self.dates = {x: 0 for x in plan.slots}
        self.spent = {s for s, road in plan.roads if road is not None and fits_plainly(road, self.marks)}
        self.rules = moment(plan, plan.start, self.dates, True, guessed)

    def after(self, deed):
        other = Course.__new__(Course)
        other.plan, other.guessed, other.names = self.plan, self.guessed, self.names + (deed.name,)
        other.marks = (self.marks - set(deed.clears)) | set(deed.sets)
        other.dates = {x: date + (x in deed.renews) for x, date in self.dates.items()}
        other.spent = {s for s in self.spent if s not in deed.renews}
        other.spent |= {s for s, road in self.plan.roads if road is not None and fits_plainly(road, other.marks)}
        other.rules = self.rules + moment(self.plan, deed, other.dates, False, self.guessed)
        return other

    def stolen(self):
        """The secrets that are known and not spent."""
        space = close(self.plan.p, self.rules)
        return [s for s in self.plan.secrets if s not in self.spent and ((f"{s}#{self.dates[s]}", 1),) in space]


def first_theft(plan, most, guessed=()):
    """The first of the shortest thefts of at most so many deeds: its course and secret, or None."""
    level = [Course(plan, guessed)]
    for _ in range(most + 1):
        for course in level:
            if course.stolen():
                return course.names, course.stolen()[0]
        level = [course.after(deed) for course in level for deed in plan.deeds if is_allowed(deed, course.marks)]
    return None
