"""The desk: questions about a sheet, answered in lines."""

from holdingsshut.audit import audit, blames, exposed
from holdingsshut.boards import CUT, friends
from holdingsshut.errors import VaultError
from holdingsshut.forms import is_count, show_form
from holdingsshut.formulas import read_formula
from holdingsshut.lots import least_lots, unfit_lots
from holdingsshut.pebbles import least_steps
from holdingsshut.search import heals, judge, price
from holdingsshut.sheets import read_plan
from holdingsshut.sources import present_part

# The numbers that a question may ask with are at least 1 and at most these.
MOST = {"limit": 400, "cells": 120, "length": 120}
# By the first word: which words are due behind it (a name is no number), and whether more may follow.
SHAPES = {
    "judge": (("limit",), True), "friends": (("limit",), False), "price": (("cells", "limit"), False),
    "heals": (("name", "limit"), False), "audit": ((), True), "blame": (("name",), True), "exposed": ((), True),
    "present": ((), True), "steps": (("length", "cells"), False),
}
LOTS = "lots "


def answer(sheet, questions):
    """The lines that answer the questions, one question after the other."""
    try:
        plan = read_plan(sheet)
    except VaultError as error:
        return [f"refused {error.word}"]
    lines = []
    for question in questions:
        lines.extend(_lines(plan, question))
    return lines


def _lines(plan, question):
    """The lines that answer a question."""
    try:
        if question.startswith(LOTS) and question != LOTS:
            return _lots_lines(question[len(LOTS):])
        words = question.split(" ")
        if _has_shape(words):
            return _answered(plan, words[0], words[1:])
    except VaultError as error:
        return [f"refused {error.word}"]
    return ["refused question"]


def _has_shape(words):
    """True if the words are a question."""
    if words[0] not in SHAPES or "" in words:
        return False
    due, more = SHAPES[words[0]]
    told = words[1:]
    if len(told) < len(due) or (len(told) > len(due) and not more):
        return False
    return all([_is_due(kind, word) for kind, word in zip(due, told)])


def _is_due(kind, word):
    """True if the word may stand where one of this kind is due."""
    return kind not in MOST or (is_count(word, 4) and int(word) <= MOST[kind])


def _answered(plan, word, told):
    """The lines for a question of the right shape."""
    action = ACTIONS[word]
    return action(plan, told)


def _joined(words):
    return " ".join(words)


def _lot(lot):
    """The lot in a line."""
    if not lot:
        return "-"
    return _joined(lot)


def _behind_colon(line, words):
    """The line, a colon, and the words."""
    return _joined([f"{line}:"] + list(words))


def _or_none(word, text):
    """The word and the text; the word and `none` if the text is empty."""
    if text == "":
        return f"{word} none"
    return f"{word} {text}"


def _judge_lines(plan, told):
    found = judge(plan, guessed=told[1:], limit=int(told[0]))
    if found[0] == "shut":
        return [f"shut {len(found[1])}"]
    return [_behind_colon(f"theft {found[2]}", found[1])]


def _friends_lines(plan, told):
    found = friends(plan, limit=int(told[0]))
    if found[0] == "open":
        return [f"open {len(found[1])}"]
    if found[0] == CUT:
        return [_behind_colon(f"cut {found[2]}", found[1])]
    slot = plan.promises[found[2]][0]
    return [_behind_colon(f"{found[0]} {slot} {_lot(found[3])}", found[1])]


def _price_lines(plan, told):
    found = price(plan, cells=int(told[0]), limit=int(told[1]))
    if found[0] == "none":
        return ["price none"]
    return [_behind_colon(f"price {found[1]}", found[2])]


def _heals_lines(plan, told):
    found = heals(plan, told[0], limit=int(told[1]))
    if found[0] == "heals":
        return [f"heals {len(found[1])}"]
    return [_behind_colon("survives", found[1])]


def _audit_lines(plan, told):
    states = audit(plan, told)
    lines = []
    for time in range(len(told) + 1):
        rows = [f"{secret} {state}" for at, secret, state in states if at == time]
        lines.append(_joined([str(time)] + _comma_list(rows)))
    return lines


def _comma_list(items):
    """The items joined by commas as the only word; no word without items."""
    if not items:
        return []
    return [", ".join(items)]


def _blame_lines(plan, told):
    found = blames(plan, told[1:], told[0])
    if found == [()]:
        return ["blame always"]
    return [_or_none("blame", "; ".join([_joined([str(time) for time in blame]) for blame in found]))]


def _exposed_lines(plan, told):
    return [_or_none("exposed", _joined(exposed(plan, told)))]


def _present_lines(plan, told):
    return [_or_none("present", ", ".join([show_form(f) for f in present_part(plan, told)]))]


def _steps_lines(_, told):
    return [f"steps {least_steps(int(told[0]), int(told[1]))}"]


def _lots_lines(text):
    formula = read_formula(text)
    least = "; ".join([_lot(lot) for lot in least_lots(formula)])
    unfit = "; ".join([_lot(lot) for lot in unfit_lots(formula)])
    return [f"least {least}", f"unfit {unfit}"]


ACTIONS = {
    "judge": _judge_lines, "friends": _friends_lines, "price": _price_lines, "heals": _heals_lines,
    "audit": _audit_lines, "blame": _blame_lines, "exposed": _exposed_lines, "present": _present_lines,
    "steps": _steps_lines,
}
