"""Sharings that are renewed at dates, and what old and new shares bring together."""

from holdingsshut.forms import dated_name, minus, moved_by, need_plain, old_name, renamed, unit
from holdingsshut.primes import need_prime
from holdingsshut.rows import rows_of
from holdingsshut.spaces import Space


def difference_rows(p, rows, masks):
    """The list of pairs (holder, row minus the row in old masks)."""
    need_prime(p)
    old = {mask: old_name(mask) for mask in masks}
    return [(holder, _difference(p, form, {}, old)) for holder, form in rows]


def dates_space(p, rows, masks, lots, *, heard=()):
    """The space of the rows of one lot for each date, and of the heard differences."""
    need_prime(p)
    return Space.over(p, _dated_forms(p, rows, masks, lots, heard))


def cut_paper(p, rows, masks, lots, *, heard=(), secret="s"):
    """The blind shift which shows that old and new shares do not bring the secret."""
    need_prime(p)
    need_plain(secret)
    return dates_space(p, rows, masks, lots, heard=heard).blind(unit(secret))


def is_cut_paper(p, rows, masks, lots, shift, *, heard=(), secret="s"):
    """True if the shift moves the secret by 1 and nothing that the foe has."""
    need_prime(p)
    need_plain(secret)
    moves = dict(shift)
    if moved_by(p, unit(secret), moves) != 1:
        return False
    forms = _dated_forms(p, rows, masks, lots, heard)
    return all(moved_by(p, f, moves) == 0 for f in forms)


def _dated_forms(p, rows, masks, lots, heard):
    """The forms that the foe has, date by date: the lot's rows, then the heard differences."""
    tables = [{mask: dated_name(mask, date) for mask in masks} for date in range(len(lots))]
    forms = []
    for date, lot in enumerate(lots):
        new = tables[date]
        forms.extend([renamed(p, rows[at][1], new) for at in rows_of(rows, lot)])
        # At the date 0 nothing is older, so no difference can be heard.
        if 1 <= date <= len(heard):
            old = tables[date - 1]
            forms.extend([_difference(p, rows[at][1], new, old) for at in rows_of(rows, heard[date - 1])])
    return forms


def _difference(p, form, new, old):
    """The form in new names minus the form in old names."""
    return minus(p, renamed(p, form, new), renamed(p, form, old))
