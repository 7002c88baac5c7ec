"""Rows: the forms over secret and masks by which a formula shares a secret."""

from holdingsshut.errors import FieldTooSmall, TwiceNamed
from holdingsshut.forms import is_name, make_form, need_plain, need_prefix, unit
from holdingsshut.formulas import check_formula, formula_names
from holdingsshut.lots import unfit_lots
from holdingsshut.primes import need_prime


def formula_rows(p, formula, *, secret="s", prefix="s"):
    """The rows and the masks of the sharing gate by gate."""
    _check_kinds(p, formula, secret, prefix)
    rows = []
    masks = []
    _share(p, prefix, formula, unit(secret), rows, masks)
    _need_no_mask(secret, masks)
    return rows, tuple(masks)


def lots_rows(p, formula, *, secret="s", prefix="s"):
    """The rows and the masks of the sharing by unfit lots."""
    _check_kinds(p, formula, secret, prefix)
    lots = unfit_lots(formula)
    masks = _new_masks(prefix, [], len(lots) - 1)
    _need_no_mask(secret, masks)
    pieces = _pieces(p, unit(secret), masks)
    rows = []
    for holder in formula_names(formula):
        rows.extend([(holder, piece) for piece, lot in zip(pieces, lots) if holder not in lot])
    return rows, tuple(masks)


def rows_of(rows, lot):
    """The ascending list of the numbers of the rows of the lot's holders."""
    holders = {name: True for name in lot}
    return [at for at, (holder, _) in enumerate(rows) if holder in holders]


def _check_kinds(p, formula, secret, prefix):
    need_prime(p)
    check_formula(formula)
    need_plain(secret)
    need_prefix(prefix)


def _need_no_mask(secret, masks):
    if secret in masks:
        raise TwiceNamed(secret)


def _share(p, prefix, part, form, rows, masks):
    """Append the rows of a part that gets the form, and the masks of its gates."""
    if is_name(part):
        rows.append((part, form))
        return
    k, places = part
    given = _forms_of_places(p, prefix, form, k, len(places), masks)
    for place, place_form in zip(places, given):
        _share(p, prefix, place, place_form, rows, masks)


def _forms_of_places(p, prefix, form, k, n, masks):
    """The forms that a gate k of n gives to its places."""
    if k == 1:
        return [form for _ in range(n)]
    if k < n and n >= p:
        raise FieldTooSmall(n)
    taken = _new_masks(prefix, masks, k - 1)
    if k == n:
        return _pieces(p, form, taken)
    return [_point(p, form, taken, at) for at in range(1, n + 1)]


def _new_masks(prefix, masks, many):
    """Append so many new masks to the list, and return them."""
    first = len(masks) + 1
    taken = [f"{prefix}.{number}" for number in range(first, first + many)]
    masks.extend(taken)
    return taken


def _pieces(p, form, masks):
    """The units of the masks, and the form minus all of them: together they give the form."""
    last = make_form(p, list(form) + [(mask, -1) for mask in masks])
    return [unit(mask) for mask in masks] + [last]


def _point(p, form, masks, at):
    """The number at `at` of the curve that has the form at 0 and the masks as coefficients."""
    pairs = list(form)
    power = 1
    for mask in masks:
        power = power * at % p
        pairs.append((mask, power))
    return make_form(p, pairs)
