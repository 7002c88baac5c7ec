"""Rows of sheets: the parts that each kind of row has, in the order in which they stand."""

NAME = "name"
NUMBER = "number"
FORM = "form"
FORMULA = "formula"
# Stands for a part that is left out.
LEFT_OUT = "none"
ARROW = " -> "
WHEN = " when "


def row_parts(word, rest):
    """The pairs (kind, text) of a row, or None if its shape is at fault.

    `word` is its first word, `rest` the text behind that word's blank, or None
    if there is no such blank.
    """
    shape = SHAPES[word]
    return shape(rest)


def _words(rest):
    """The words of the text; none if one of them is empty or there is no text."""
    if rest is None:
        return []
    words = rest.split(" ")
    if "" in words:
        return []
    return words


def _nothing(rest):
    if rest is None:
        return []
    return None


def _names(rest):
    return [(NAME, word) for word in _words(rest)] or None


def _single(kind, rest):
    words = _words(rest)
    if len(words) == 1:
        return [(kind, words[0])]
    return None


def _one_name(rest):
    return _single(NAME, rest)


def _one_number(rest):
    return _single(NUMBER, rest)


def _whole(kind, rest):
    """The whole text as one part; blanks in it are no fault here."""
    if rest is None or rest == "":
        return None
    return [(kind, rest)]


def _one_form(rest):
    return _whole(FORM, rest)


def _one_formula(rest):
    return _whole(FORMULA, rest)


def _forms(text, between):
    """The forms of a text that is split at the sign between them, or None if one is missing."""
    pieces = text.split(between)
    if "" in pieces:
        return None
    return [(FORM, piece) for piece in pieces]


def _device(rest):
    name, behind = cut(rest)
    out = (LEFT_OUT, "")
    word, more = cut(behind)
    if word == "out":
        mark, behind = cut(more)
        if not mark:
            return None
        out = (NAME, mark)
        word, more = cut(behind)
    forms = []
    if word == "holds":
        forms = _forms(more or "", ", ")
    elif behind is not None:
        return None
    if not name or forms is None:
        return None
    return [(NAME, name), out] + forms


def cut(text):
    """The first word of the text, and the text behind that word's blank or None."""
    if text is None:
        return "", None
    word, blank, behind = text.partition(" ")
    if blank:
        return word, behind
    return word, None


def _lock(rest):
    words = _words(rest)
    if len(words) < 7 or [words[1], words[3], words[5]] != ["salt", "length", "of"]:
        return None
    return [(NAME, words[0])] + [(NUMBER, word) for word in [words[2], words[4]] + words[6:]]


def _letter(rest):
    if rest is None or rest.count(ARROW) != 1:
        return None
    before, _, gives = rest.partition(ARROW)
    needs = _forms(before, " & ")
    if needs is None or gives == "":
        return None
    return needs + [(FORM, gives)]


def _road(rest):
    slot, behind = cut(rest)
    word, text = cut(behind)
    if slot and word == "never" and text is None:
        return [(NAME, slot), (LEFT_OUT, "")]
    if slot and word == "by" and text:
        return [(NAME, slot), (FORMULA, text)]
    return None


def _promise(rest):
    slot, behind = cut(rest)
    word, text = cut(behind)
    if not slot or word != "by" or not text:
        return None
    formula, between, when = text.partition(WHEN)
    if formula == "" or (between and when == ""):
        return None
    if between:
        return [(NAME, slot), (FORMULA, formula), (FORMULA, when)]
    return [(NAME, slot), (FORMULA, formula), (LEFT_OUT, "")]


SHAPES = {
    "prime": _one_number, "marks": _names, "device": _device, "lock": _lock, "standing": _letter, "road": _road,
    "promise": _promise, "start": _nothing, "deed": _one_name, "when": _one_formula, "unless": _one_formula,
    "set": _names, "clear": _names, "renew": _names, "letter": _letter, "quiet": _letter, "tell": _one_form,
    "hand": _names,
}
