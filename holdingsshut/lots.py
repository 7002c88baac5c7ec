"""Lots: which sets of names fit a formula just so, and which just fail."""

from holdingsshut.errors import BadLots
from holdingsshut.forms import is_name
from holdingsshut.formulas import check_formula, formula_names, lot_of


def dual(formula):
    """The formula that fits where the complement of a lot does not fit this one."""
    check_formula(formula)
    return _dual_part(formula)


def _dual_part(part):
    if is_name(part):
        return part
    k, places = part
    return len(places) - k + 1, tuple([_dual_part(place) for place in places])


def least_lots(formula):
    """The lots that fit and no proper part of which fits."""
    names = formula_names(formula)
    fit = _fit_table(formula, names)
    bits = [1 << at for at in range(len(names))]
    return _lots_of_numbers(names, [
        number for number in range(len(fit))
        if fit[number] and not any(fit[number - bit] for bit in bits if number & bit)
    ])


def unfit_lots(formula):
    """The lots that do not fit, while with each one more name they fit."""
    names = formula_names(formula)
    fit = _fit_table(formula, names)
    bits = [1 << at for at in range(len(names))]
    return _lots_of_numbers(names, [
        number for number in range(len(fit))
        if not fit[number] and all(fit[number + bit] for bit in bits if not number & bit)
    ])


def _fit_table(part, names):
    """For each lot of the names, by its number, whether it fits the part.

    The number of a lot has the bit i where the lot has the name number i. All
    lots are gone through at once: a gate adds up the tables of its places.
    """
    if is_name(part):
        bit = 1 << names.index(part)
        return [number & bit != 0 for number in range(1 << len(names))]
    k, places = part
    counts = [0] * (1 << len(names))
    for place in places:
        counts = [count + fit for count, fit in zip(counts, _fit_table(place, names))]
    return [count >= k for count in counts]


def _lots_of_numbers(names, numbers):
    """The ordered list of the lots with these numbers."""
    return _ordered([
        tuple([name for at, name in enumerate(names) if number & (1 << at)]) for number in numbers
    ])


def _ordered(lots):
    return sorted(lots, key=_place_in_lists)


def _place_in_lists(lot):
    return len(lot), lot


def least_of(lots):
    """The ordered list of those lots of a list that contain no other lot of it."""
    kept = []
    kept_numbers = []
    bits = {}
    # Shorter lots come first, so what a lot contains was met before it.
    for lot in _ordered([lot_of(names) for names in lots]):
        number = _number_of(lot, bits)
        if not any(small & number == small for small in kept_numbers):
            kept.append(lot)
            kept_numbers.append(number)
    return kept


def _number_of(lot, bits):
    """The number of a lot; a new name gets the next bit in the dict."""
    number = 0
    for name in lot:
        number |= bits.setdefault(name, 1 << len(bits))
    return number


def parts_of(items):
    """All parts of an ascending list, as tuples, in the order of lists of lots."""
    parts = [()]
    for item in items:
        parts = parts + [part + (item,) for part in parts]
    return _ordered(parts)


def formula_of_lots(lots):
    """A formula that fits exactly the lots that contain a lot of the list."""
    handed = tuple([lot_of(names) for names in lots])
    if not handed or () in handed:
        raise BadLots(handed)
    formulas = [_formula_of_lot(lot) for lot in least_of(handed)]
    if len(formulas) == 1:
        return formulas[0]
    return 1, tuple(formulas)


def _formula_of_lot(lot):
    if len(lot) == 1:
        return lot[0]
    return len(lot), lot
