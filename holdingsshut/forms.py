"""Names, and forms: sums of names with coefficients modulo a prime."""

from holdingsshut.errors import BadForm, BadName, NoNumber
from holdingsshut.primes import inverse, need_prime

LETTERS = "abcdefghijklmnopqrstuvwxyz"
DIGITS = "0123456789"
NAME_SIGNS = "abcdefghijklmnopqrstuvwxyz0123456789."
MOST_SIGNS = 20
MOST_SHORT_SIGNS = 8


def is_name(text):
    """True for a plain name; any value may be handed in."""
    if not isinstance(text, str) or not 1 <= len(text) <= MOST_SIGNS:
        return False
    return text[0] in LETTERS and all(sign in NAME_SIGNS for sign in text)


def is_count(text, most):
    """True for a text of 1 to `most` digits of which the first is not 0."""
    if not 1 <= len(text) <= most or text[0] == "0":
        return False
    return all(sign in DIGITS for sign in text)


def is_old(text):
    """True for an old name; any value may be handed in."""
    return isinstance(text, str) and text.endswith("~") and is_name(text[:-1])


def is_dated(text):
    """True for a dated name; any value may be handed in."""
    if not isinstance(text, str):
        return False
    name, _, date = text.partition("#")
    return is_name(name) and (date == "0" or is_count(date, 4))


def is_any_name(text):
    """True for a name of any of the three kinds."""
    return is_name(text) or is_old(text) or is_dated(text)


def need_plain(name):
    """Raise BadName unless the value is a plain name."""
    if not is_name(name):
        raise BadName(name)


def is_short_name(text):
    """True for a plain name that may be a prefix or a leaf; any value may be handed in."""
    return is_name(text) and len(text) <= MOST_SHORT_SIGNS


def need_prefix(prefix):
    """Raise BadName unless the value is a plain name that is short enough."""
    if not is_short_name(prefix):
        raise BadName(prefix)


def need_any_name(name):
    """Raise BadName unless the value is a name of any kind."""
    if not is_any_name(name):
        raise BadName(name)


def first_repeated(values):
    """The first text of the list that stood before in it, or None; other values don't count."""
    seen = {}
    for item in values:
        if isinstance(item, str):
            if item in seen:
                return item
            seen[item] = True
    return None


def old_name(name):
    """The old name of a plain name."""
    need_plain(name)
    return name + "~"


def dated_name(name, date):
    """The dated name of a plain name."""
    need_plain(name)
    return name + "#" + str(date)


def plain_name(name):
    """The plain name inside a name of any kind."""
    need_any_name(name)
    if is_old(name):
        return name[:-1]
    return name.partition("#")[0]


def form_of(p, totals):
    """The form of a dict from names to integers; nothing is checked."""
    return tuple(sorted([(name, total % p) for name, total in totals.items() if total % p]))


def plus_times(p, f, g, by):
    """f plus `by` times g, for forms and whatever has their shape; nothing is checked."""
    totals = dict(f)
    for name, number in g:
        totals[name] = totals.get(name, 0) + by * number
    return form_of(p, totals)


def sum_of_mix(p, forms, mix):
    """The sum of multiples of listed forms that a mix, pairs (index, integer), tells."""
    totals = {}
    for index, by in mix:
        for name, number in forms[index]:
            totals[name] = totals.get(name, 0) + by * number
    return form_of(p, totals)


def moved_by(p, f, moves):
    """By how much a form moves if its names move as the dict tells; other names stay."""
    return sum([number * moves.get(name, 0) for name, number in f]) % p


def coefficient(f, name):
    """The coefficient of the form at the name."""
    for other, number in f:
        if other == name:
            return number
    return 0


def make_form(p, pairs):
    """The form of a list of pairs (name, integer)."""
    need_prime(p)
    totals = {}
    for name, number in pairs:
        need_any_name(name)
        totals[name] = totals.get(name, 0) + number
    return form_of(p, totals)


def unit(name):
    """The form that is the name alone."""
    need_any_name(name)
    return ((name, 1),)


def plus(p, f, g):
    """The sum of two forms."""
    need_prime(p)
    return plus_times(p, f, g, 1)


def minus(p, f, g):
    """The difference of two forms."""
    need_prime(p)
    return plus_times(p, f, g, -1)


def times(p, f, *, by):
    """The multiple of a form by an integer."""
    need_prime(p)
    return plus_times(p, (), f, by)


def normal(p, f):
    """The multiple whose coefficient at the lead is 1; the zero form stays zero."""
    need_prime(p)
    if not f:
        return ()
    return plus_times(p, (), f, inverse(p, f[0][1]))


def form_names(f):
    """The ascending tuple of the form's names."""
    return tuple([name for name, _ in f])


def value(p, f, world):
    """The number that the form has in the world."""
    need_prime(p)
    total = 0
    for name, number in f:
        if name not in world:
            raise NoNumber(name)
        total += number * world[name]
    return total % p


def renamed(p, f, table):
    """The form with all names that the dict has replaced at once."""
    need_prime(p)
    totals = {}
    for name, number in f:
        new = table.get(name, name)
        totals[new] = totals.get(new, 0) + number
    return form_of(p, totals)


def show_form(f):
    """The form as a text."""
    if not f:
        return "0"
    return " + ".join([_show_term(name, number) for name, number in f])


def _show_term(name, number):
    if number == 1:
        return name
    return f"{number}*{name}"


def read_form(p, text):
    """The form that the text says."""
    need_prime(p)
    if text == "0":
        return ()
    terms = []
    for at, piece in enumerate(text.split(" + ")):
        term = _read_term(piece)
        if term is None:
            raise BadForm(text, at)
        terms.append(term)
    return make_form(p, terms)


def _read_term(piece):
    """The pair (name, coefficient) that the piece says, or None."""
    digits, name = "1", piece
    if "*" in piece:
        digits, _, name = piece.partition("*")
    if is_any_name(name) and is_count(digits, 6):
        return name, int(digits)
    return None
