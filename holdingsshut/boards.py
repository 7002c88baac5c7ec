"""Boards: what friends read, whom a deed cuts off, and which promises are kept."""

from holdingsshut.courses import allowed, first_marks, is_asked, marks_after, marks_behind
from holdingsshut.errors import Stranger, TooMany
from holdingsshut.forms import is_old, old_name, unit
from holdingsshut.formulas import formula_names, lot_of
from holdingsshut.lots import least_lots, unfit_lots
from holdingsshut.papers import blind_paper, find_paper
from holdingsshut.rules import close, fire, renamed_rule, rule_names
from holdingsshut.sources import names_any, posted_again

SHORT = "short"
OVER = "over"
CUT = "cut"


def plain_board(rules):
    """The ascending tuple of the different rules."""
    return tuple(sorted(set(rules)))


def first_board(plan):
    """The board right after the start."""
    return plain_board(list(plan.standing) + _letter_rules(plan.start))


def board_after(plan, board, deed_name):
    """The board after the deed."""
    deed = plan.deed_named(deed_name)
    kept = [rule for rule in board if not names_any(rule, deed.renews)]
    posted = [rule for rule in _letter_rules(deed) if not _names_old(rule)]
    return plain_board(kept + posted + posted_again(plan, deed))


def _letter_rules(deed):
    """The rules of the deed's letters, heard or not."""
    return [(needs, gives) for needs, gives, _ in deed.letters]


def _names_old(rule):
    return any([is_old(name) for name in rule_names(rule)])


def lot_rules(plan, board, lot):
    """The rules that the lot's devices have: their drawers as tells, and the board."""
    told = []
    for _, drawer, _ in _devices_of(plan, lot):
        told.extend(_tells(drawer))
    return told + list(plain_board(board))


def _devices_of(plan, lot):
    """The devices of the lot by ascending name."""
    return sorted([device for device in plan.devices if device[0] in lot], key=lambda device: device[0])


def _tells(forms):
    """The rules that tell the forms."""
    return [((), f) for f in forms]


def device_named(plan, name):
    """The device of this name."""
    for device in plan.devices:
        if device[0] == name:
            return device
    raise Stranger(name)


def keeping_rules(plan, board, deed_name, device):
    """The rules by which a device comes to the new numbers of its drawer."""
    deed = plan.deed_named(deed_name)
    _, drawer, _ = device_named(plan, device)
    return _keeping(plan, plain_board(board), deed, drawer)


def _keeping(plan, board, deed, drawer):
    """The keeping rules of a drawer; the board has its different rules in order."""
    olds = {slot: old_name(slot) for slot in deed.renews}
    old_rules = [renamed_rule(plan.p, rule, olds) for rule in _tells(drawer) + list(board)]
    return old_rules + _letter_rules(deed) + list(plan.standing)


def is_out(device, marks):
    """True if the device has an out mark that is set."""
    return device[2] in marks


def cut_off(plan, marks, board, deed_name):
    """The first device that the deed cuts off, and the form that it cannot come to; or None."""
    deed = plan.deed_named(deed_name)
    rules = plain_board(board)
    after = marks_behind(deed, marks)
    for device in plan.devices:
        if device[0] not in deed.hands and not is_out(device, after):
            if is_out(device, marks):
                return device[0], ()
            lost = _first_lost(plan, rules, deed, device[1])
            if lost is not None:
                return device[0], lost
    return None


def _first_lost(plan, board, deed, drawer):
    """The first renewed form of the drawer that the keeping rules do not bring, or None."""
    renewed = renewed_forms(drawer, deed)
    if not renewed:
        return None
    space = close(plan.p, _keeping(plan, board, deed, drawer))
    for f in renewed:
        if f not in space:
            return f
    return None


def renewed_forms(drawer, deed):
    """The forms of the drawer that name a slot which the deed renews."""
    return [f for f in drawer if names_any(((), f), deed.renews)]


def promise_break(plan, marks, board):
    """The number of the first broken promise, its side, and the lot for which it breaks; or None."""
    rules = plain_board(board)
    inside = [device for device in plan.devices if not is_out(device, marks)]
    # Most lots have most of what they know from the board alone.
    base = close(plan.p, rules)
    for number, (slot, formula, when) in enumerate(plan.promises):
        if is_asked(when, marks):
            for side, lot in _asked_lots(formula, [device[0] for device in inside]):
                if _comes_to(base, rules, inside, lot, slot) != (side == SHORT):
                    return number, side, lot
    return None


def _asked_lots(formula, inside):
    """The pairs (side, lot) that suffice to be asked of a promise, in order."""
    asked = [(SHORT, lot) for lot in least_lots(formula) if all([name in inside for name in lot])]
    names = formula_names(formula)
    others = [name for name in inside if name not in names]
    for unfit in unfit_lots(formula):
        asked.append((OVER, lot_of(others + [name for name in unfit if name in inside])))
    return asked


def _comes_to(base, rules, devices, lot, slot):
    """True if the devices of the lot come to the slot, where all come to the base by the rules."""
    space = base.clone()
    for name, drawer, _ in devices:
        if name in lot:
            for f in drawer:
                space.add(f)
    fire(space, rules)
    return unit(slot) in space


def friends(plan, *, limit=200):
    """The list of all pairs (marks, board), or the first shortest break."""
    first = (first_marks(plan), first_board(plan))
    broken = promise_break(plan, first[0], first[1])
    if broken is not None:
        return _broken_answer(plan, (), first[1], broken)
    courses = {first: ()}
    kept = [first]
    at = 0
    while at < len(kept):
        marks, board = kept[at]
        course = courses[kept[at]]
        for name in allowed(plan, marks):
            cut = cut_off(plan, marks, board, name)
            if cut is not None:
                return _cut_answer(plan, course, board, name, cut)
            pair = (marks_after(plan, marks, name), board_after(plan, board, name))
            if pair not in courses:
                broken = promise_break(plan, pair[0], pair[1])
                if broken is not None:
                    return _broken_answer(plan, course + (name,), pair[1], broken)
                if len(kept) >= limit:
                    raise TooMany(limit)
                courses[pair] = course + (name,)
                kept.append(pair)
        at += 1
    return "open", tuple(kept)


def _cut_answer(plan, course, board, name, cut):
    """The answer that tells whom a deed behind the course cuts off."""
    device, form = cut
    basis, shift = (), ()
    # A device that was out lacks more than one form.
    if form != ():
        basis, shift = blind_paper(plan.p, keeping_rules(plan, board, name, device), form)
    return CUT, course + (name,), device, form, basis, shift


def _broken_answer(plan, course, board, broken):
    """The answer that tells a broken promise behind the course."""
    number, side, lot = broken
    rules = lot_rules(plan, board, lot)
    goal = unit(plan.promises[number][0])
    if side == SHORT:
        basis, shift = blind_paper(plan.p, rules, goal)
        return SHORT, course, number, lot, basis, shift
    steps, last = find_paper(plan.p, rules, goal)
    return OVER, course, number, lot, steps, last
