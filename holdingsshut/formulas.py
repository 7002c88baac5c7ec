"""Formulas: names, and gates that ask for so many of their places."""

from holdingsshut.errors import BadFormula, BadGate
from holdingsshut.forms import NAME_SIGNS, is_count, is_name
from holdingsshut.primes import is_whole

MOST_GATE_PLACES = 80
MOST_GATES_AROUND = 6
MOST_NAMES = 12
MOST_PLACES = 200


def gate(k, *places):
    """The checked formula `k of the places`."""
    return check_formula((k, places))


def check_formula(formula):
    """Return the formula, or raise BadGate; any value may be handed in."""
    _check_part(formula, 0)
    many = _count_places(formula)
    if many > MOST_PLACES or len(lot_of(_names_inside(formula))) > MOST_NAMES:
        raise BadGate(formula)
    return formula


def check_formula_or_none(formula):
    """Return the formula or None, or raise BadGate."""
    if formula is None:
        return None
    return check_formula(formula)


def _check_part(part, around):
    """Raise BadGate for the first bad part, inside so many gates, from here on."""
    if is_name(part):
        return
    if around == MOST_GATES_AROUND or not _is_gate(part):
        raise BadGate(part)
    for place in part[1]:
        _check_part(place, around + 1)


def _is_gate(part):
    """True if the value is a gate as far as its places are not looked into."""
    if not isinstance(part, tuple) or len(part) != 2:
        return False
    k, places = part
    if not is_whole(k) or not isinstance(places, tuple):
        return False
    return 1 <= k <= len(places) <= MOST_GATE_PLACES


def _count_places(part):
    """The places of all gates of a part together."""
    if is_name(part):
        return 0
    return len(part[1]) + sum([_count_places(place) for place in part[1]])


def _names_inside(part):
    """The names of a part from left to right, each as often as it stands there."""
    if is_name(part):
        return [part]
    return [name for place in part[1] for name in _names_inside(place)]


def lot_of(names):
    """The lot of a list of names."""
    return tuple(sorted(set(names)))


def formula_names(formula):
    """The lot of the formula's names."""
    check_formula(formula)
    return lot_of(_names_inside(formula))


def fits(formula, lot):
    """True if the lot, a list of names, fits the formula."""
    check_formula(formula)
    return fits_checked(formula, lot)


def fits_checked(formula, lot):
    """As `fits`, for a formula that was checked before."""
    return _fits_part(formula, {name: True for name in lot})


def _fits_part(part, present):
    if is_name(part):
        return part in present
    k, places = part
    return sum([_fits_part(place, present) for place in places]) >= k


def show_formula(formula):
    """The formula as a text."""
    check_formula(formula)
    return _show_part(formula)


def _show_part(part):
    if is_name(part):
        return part
    k, places = part
    inside = ", ".join([_show_part(place) for place in places])
    return f"{k}({inside})"


def read_formula(text):
    """The formula that the text says."""
    tokens = _tokens(text)
    formula, behind = _read_part(text, tokens, 0, 0)
    _need_word(text, tokens[behind], "")
    try:
        return check_formula(formula)
    except BadGate:
        raise BadFormula(text, 0) from None


def _tokens(text):
    """The pairs (word, index of its first sign); at the end an empty word.

    A sign that begins no token is a word by itself, so that what cannot stand
    anywhere is met in its turn.
    """
    tokens = []
    at = 0
    while at < len(text):
        end = at + 1
        if text[at] in NAME_SIGNS:
            while end < len(text) and text[end] in NAME_SIGNS:
                end += 1
        if text[at] != " ":
            tokens.append((text[at:end], at))
        at = end
    return tokens + [("", len(text))]


def _need_word(text, token, word):
    """Raise BadFormula unless the token is this word."""
    if token[0] != word:
        raise BadFormula(text, token[1])


def _read_part(text, tokens, at, around):
    """The part that begins with the token number `at`, and the number of what is behind it."""
    word, start = tokens[at]
    if is_name(word):
        return word, at + 1
    if around == MOST_GATES_AROUND or not is_count(word, 2):
        raise BadFormula(text, start)
    _need_word(text, tokens[at + 1], "(")
    places = []
    behind = at + 1
    while not places or tokens[behind][0] == ",":
        place, behind = _read_part(text, tokens, behind + 1, around + 1)
        places.append(place)
    _need_word(text, tokens[behind], ")")
    return (int(word), tuple(places)), behind + 1
