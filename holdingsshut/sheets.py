"""Sheets: texts for plans, written and read row by row."""

from holdingsshut.errors import BadForm, BadFormula, BadSheet
from holdingsshut.forms import is_count, read_form, show_form
from holdingsshut.formulas import read_formula, show_formula
from holdingsshut.plans import Deed, Plan
from holdingsshut.primes import need_prime
from holdingsshut.sheetrows import FORM, FORMULA, LEFT_OUT, NUMBER, cut, row_parts

TOP = ("prime", "marks", "device", "lock", "standing", "road", "promise", "start", "deed")
BELOW = ("when", "unless", "set", "clear", "renew", "letter", "tell", "hand")
ONCE = ("prime", "marks", "start", "when", "unless", "set", "clear", "renew", "hand")
START = 7
QUIET = "quiet"


def show_plan(plan):
    """The sheet of the plan."""
    rows = [f"prime {plan.p}"] + _names_rows("marks", plan.marks)
    rows.extend([_device_row(name, drawer, out) for name, drawer, out in plan.devices])
    for slot, salt, length, candidates in plan.locks:
        rows.append(_joined([f"lock {slot} salt {salt} length {length} of"] + [str(number) for number in candidates]))
    rows.extend(["standing " + _show_letter(needs, gives) for needs, gives in plan.standing])
    for secret, road in plan.roads:
        if road is None:
            rows.append(f"road {secret} never")
        else:
            rows.append(f"road {secret} by {show_formula(road)}")
    for slot, formula, when in plan.promises:
        rows.append("".join([f"promise {slot} by {show_formula(formula)}"] + _formula_rows("when", when)))
    rows.append("start")
    rows.extend(_deed_rows(plan.start))
    for deed in plan:
        rows.append(f"deed {deed.name}")
        rows.extend(_deed_rows(deed))
    return "\n".join(rows)


def _joined(words):
    return " ".join(words)


def _names_rows(word, names):
    """The row of the names; none without names."""
    if not names:
        return []
    return [_joined([word] + list(names))]


def _formula_rows(word, formula):
    """The row of the formula behind a blank; none for None."""
    if formula is None:
        return []
    return [f" {word} {show_formula(formula)}"]


def _device_row(name, drawer, out):
    row = f"device {name}"
    if out is not None:
        row = f"{row} out {out}"
    if drawer:
        row = row + " holds " + ", ".join([show_form(f) for f in drawer])
    return row


def _show_letter(needs, gives):
    return " & ".join([show_form(need) for need in needs]) + " -> " + show_form(gives)


def _deed_rows(deed):
    """The rows of what the start or a deed does."""
    rows = _formula_rows("when", deed.when) + _formula_rows("unless", deed.unless)
    for word, names in [("set", deed.sets), ("clear", deed.clears), ("renew", deed.renews)]:
        rows.extend(_names_rows(" " + word, names))
    for needs, gives, heard in deed.letters:
        word = "letter" if heard else QUIET
        rows.append(f" {word} {_show_letter(needs, gives)}")
    rows.extend([f" tell {show_form(f)}" for f in deed.tells])
    return rows + _names_rows(" hand", deed.hands)


def read_plan(text):
    """The plan that the sheet tells."""
    rows = text.split("\n")
    p = None
    place = (-1, -1)
    told = []
    for at, row in enumerate(rows):
        line = at + 1
        word, rest = _first_word(line, row, place)
        place = _next_place(line, word, place)
        values = _row_values(p, line, word, rest)
        if line == 1:
            p = need_prime(values[0])
        told.append((word, values))
    if place[0] < START:
        raise BadSheet(len(rows) + 1, "row")
    return _told_plan(p, told)


def _first_word(line, row, place):
    """The first word of the row, and the text behind it or None."""
    below = row.startswith(" ")
    if below:
        row = row[1:]
    word, rest = cut(row)
    known = (BELOW + (QUIET,)) if below else TOP
    needs_start = below or word == "deed"
    if word not in known or (needs_start and place[0] < START) or (line == 1 and word != "prime"):
        raise BadSheet(line, "row")
    return word, rest


def _next_place(line, word, place):
    """The place (among the rows outside of deeds, within the deed) of a row behind this one."""
    top, below = place
    if word in TOP:
        at, before = TOP.index(word), top
        place = (at, -1)
    else:
        # A quiet letter stands among the letters.
        at, before = BELOW.index("letter" if word == QUIET else word), below
        place = (top, at)
    if at < before or (at == before and word in ONCE):
        raise BadSheet(line, "order")
    return place


def _row_values(p, line, word, rest):
    """What the parts of the row say, from left to right."""
    parts = row_parts(word, rest)
    if parts is None:
        raise BadSheet(line, "row")
    return [_part_value(p, line, kind, text) for kind, text in parts]


def _part_value(p, line, kind, text):
    if kind == LEFT_OUT:
        return None
    if kind == NUMBER:
        if text != "0" and not is_count(text, 4):
            raise BadSheet(line, NUMBER)
        return int(text)
    try:
        if kind == FORM:
            return read_form(p, text)
        if kind == FORMULA:
            return read_formula(text)
    except BadForm:
        raise BadSheet(line, FORM) from None
    except BadFormula:
        raise BadSheet(line, FORMULA) from None
    return text


def _told_plan(p, told):
    """The plan of the rows' words and values."""
    found = {word: [] for word in TOP}
    deeds = []
    for word, values in told:
        if word in found:
            found[word].append(values)
        if word in ("start", "deed"):
            deeds.append((_deed_name(values), []))
        elif word not in found:
            deeds[-1][1].append((word, values))
    made = [_told_deed(name, rows) for name, rows in deeds]
    return Plan(
        p, start=made[0], deeds=made[1:], marks=_first(found["marks"]),
        devices=[(values[0], values[2:], values[1]) for values in found["device"]],
        locks=[(values[0], values[1], values[2], values[3:]) for values in found["lock"]],
        standing=[(values[:-1], values[-1]) for values in found["standing"]],
        roads=found["road"], promises=found["promise"],
    )


def _first(rows):
    """The values of the first row, or none."""
    if rows:
        return rows[0]
    return []


def _deed_name(values):
    """The name in the row of a deed; the row of the start has none."""
    if values:
        return values[0]
    return "start"


def _told_deed(name, rows):
    """The deed, or the start, of its rows' words and values."""
    found = {word: [] for word in BELOW}
    letters = []
    for word, values in rows:
        if word in ("letter", QUIET):
            letters.append((values[:-1], values[-1], word == "letter"))
        else:
            found[word].extend(values)
    return Deed(
        name, when=_only(found["when"]), unless=_only(found["unless"]), sets=found["set"], clears=found["clear"],
        renews=found["renew"], letters=letters, tells=found["tell"], hands=found["hand"],
    )


def _only(values):
    """The only value, or None."""
    if values:
        return values[0]
    return None
