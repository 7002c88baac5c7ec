"""Courses: which deeds are allowed, and what becomes of marks, secrets and dates."""

from holdingsshut.errors import Barred, NoDeed
from holdingsshut.formulas import fits_checked, lot_of


def allowed(plan, marks):
    """The names of the deeds that are allowed at the marks."""
    return [deed.name for deed in allowed_deeds(plan, marks)]


def allowed_deeds(plan, marks):
    """The deeds that are allowed at the marks, in the plan's order."""
    return [deed for deed in plan if is_allowed(deed, marks)]


def is_allowed(deed, marks):
    """True if the deed is allowed at the marks."""
    return is_asked(deed.when, marks) and not is_open(deed.unless, marks)


def is_asked(when, marks):
    """True if the formula is None or fits the marks."""
    return when is None or fits_checked(when, marks)


def is_open(road, marks):
    """True if the formula is not None and fits the marks."""
    return road is not None and fits_checked(road, marks)


def first_marks(plan):
    """The lot of the marks right after the start."""
    return lot_of(plan.start.sets)


def first_spent(plan):
    """The lot of the secrets that are spent right after the start."""
    return _spent_at(plan, first_marks(plan), [])


def marks_after(plan, marks, deed_name):
    """The lot of the marks after the deed, whether it is allowed or not."""
    return marks_behind(plan.deed_named(deed_name), marks)


def marks_behind(deed, marks):
    """The lot of the marks after a deed that was looked up."""
    return lot_of([mark for mark in marks if mark not in deed.clears] + list(deed.sets))


def spent_after(plan, marks, spent, deed_name):
    """The lot of the secrets that are spent after the deed."""
    return spent_behind(plan, plan.deed_named(deed_name), marks, spent)


def spent_behind(plan, deed, marks, spent):
    """The lot of the secrets that are spent after a deed that was looked up."""
    kept = [secret for secret in spent if secret not in deed.renews]
    return _spent_at(plan, marks_behind(deed, marks), kept)


def _spent_at(plan, marks, kept):
    """The lot of the secrets that stay spent or whose roads fit the marks."""
    return lot_of([secret for secret, road in plan.roads if secret in kept or is_open(road, marks)])


def deed_at(plan, marks, at, name):
    """The deed of this name at the place `at` of a course, if it is allowed at the marks."""
    try:
        deed = plan.deed_named(name)
    except NoDeed:
        raise NoDeed(at, name) from None
    if not is_allowed(deed, marks):
        raise Barred(at, name)
    return deed


def first_dates(plan):
    """A new dict from each slot to its date right after the start."""
    return {slot: 0 for slot in plan.slots}


def dates_behind(dates, deed):
    """A new dict of the dates after a deed."""
    return {slot: dates[slot] + 1 if slot in deed.renews else dates[slot] for slot in dates}


def replay(plan, course):
    """For each time of the course: the marks, the spent secrets, and the dates of the slots."""
    marks = first_marks(plan)
    spent = first_spent(plan)
    dates = first_dates(plan)
    times = [(marks, spent, dates)]
    for at, name in enumerate(course):
        deed = deed_at(plan, marks, at, name)
        spent = spent_behind(plan, deed, marks, spent)
        marks = marks_behind(deed, marks)
        dates = dates_behind(dates, deed)
        times.append((marks, spent, dates))
    return times
