"""Checks of what the friends' search returns, made without any search."""

from holdingsshut.boards import (
    CUT, SHORT, board_after, cut_off, device_named, first_board, is_out, keeping_rules, lot_rules, plain_board,
    promise_break, renewed_forms,
)
from holdingsshut.checks import is_lot_of, names_within
from holdingsshut.courses import allowed, first_marks, is_asked, marks_after, replay
from holdingsshut.errors import NotOpen, Stranger
from holdingsshut.forms import unit
from holdingsshut.formulas import fits_checked
from holdingsshut.papers import check_blind, check_paper
from holdingsshut.primes import lies_within


def check_open(plan, pairs):
    """Return None, or raise NotOpen for the first fault of the list of pairs (marks, board)."""
    for at, (marks, board) in enumerate(pairs):
        if not is_lot_of(marks, plan.marks) or not names_within([], board, plan.slots):
            raise NotOpen("form", at, "")
    told = [(marks, plain_board(board)) for marks, board in pairs]
    listed = {pair: True for pair in told}
    if (first_marks(plan), first_board(plan)) not in listed:
        raise NotOpen("start", 0, "")
    for at, (marks, board) in enumerate(told):
        broken = promise_break(plan, marks, board)
        if broken is not None:
            raise NotOpen(broken[1], at, plan.promises[broken[0]][0])
        for name in allowed(plan, marks):
            if cut_off(plan, marks, board, name) is not None:
                raise NotOpen("cut", at, name)
            if (marks_after(plan, marks, name), board_after(plan, board, name)) not in listed:
                raise NotOpen("step", at, name)


def check_break(plan, answer):
    """Return None, or raise the first fault of an answer that tells a break."""
    marks = [time[0] for time in replay(plan, answer[1])]
    if answer[0] == CUT:
        _check_cut(plan, answer, marks)
    else:
        _check_broken(plan, answer, marks[-1])


def _check_cut(plan, answer, marks):
    _, course, name, form, basis, shift = answer
    if not course or not _may_be_cut(plan, answer, marks):
        raise NotOpen("none", len(course), "")
    if not is_out(device_named(plan, name), marks[-2]):
        rules = keeping_rules(plan, _board_behind(plan, course[:-1]), course[-1], name)
        check_blind(plan.p, rules, form, basis, shift)


def _may_be_cut(plan, answer, marks):
    """True if the last deed of the course may cut off the device, as far as no paper is read."""
    _, course, name, form, basis, shift = answer
    try:
        device = device_named(plan, name)
    except Stranger:
        return False
    deed = plan.deed_named(course[-1])
    if is_out(device, marks[-1]) or name in deed.hands:
        return False
    if is_out(device, marks[-2]):
        return form == () and basis == () and shift == ()
    return form in renewed_forms(device[1], deed)


def _check_broken(plan, answer, marks):
    kind, course, number, lot, one, two = answer
    if not _may_be_broken(plan, answer, marks):
        raise NotOpen("none", len(course), "")
    rules = lot_rules(plan, _board_behind(plan, course), lot)
    goal = unit(plan.promises[number][0])
    if kind == SHORT:
        check_blind(plan.p, rules, goal, one, two)
    else:
        check_paper(plan.p, rules, goal, one, two)


def _may_be_broken(plan, answer, marks):
    """True if the promise may be broken for the lot, as far as no paper is read."""
    kind, _, number, lot, _, _ = answer
    if not lies_within(number, 0, len(plan.promises) - 1):
        return False
    _, formula, when = plan.promises[number]
    inside = [device[0] for device in plan.devices if not is_out(device, marks)]
    if not is_asked(when, marks) or not all([name in inside for name in lot]):
        return False
    return fits_checked(formula, lot) == (kind == SHORT)


def _board_behind(plan, course):
    """The board behind a course."""
    board = first_board(plan)
    for name in course:
        board = board_after(plan, board, name)
    return board
