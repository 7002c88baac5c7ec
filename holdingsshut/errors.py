"""The errors of the program: one class for each kind of refusal."""


class VaultError(ValueError):
    """The base of all errors of the program."""

    def __init__(self):
        self.word = self.__class__.__name__.lower()


class TooMany(VaultError):
    """A search was to keep more than its limit."""

    def __init__(self, limit):
        super().__init__()
        self.limit = limit


class NumberError(VaultError):
    """Faults of numbers and of tables of numbers."""


class BadPrime(NumberError):
    """The value is no prime from 2 to 97."""

    def __init__(self, value):
        super().__init__()
        self.value = value


class NoInverse(NumberError):
    """The integer is a multiple of the prime."""

    def __init__(self, value):
        super().__init__()
        self.value = value


class NoNumber(NumberError):
    """The world has no number for the name."""

    def __init__(self, name):
        super().__init__()
        self.name = name


class BadTable(NumberError):
    """The table so named is no list of p numbers."""

    def __init__(self, which):
        super().__init__()
        self.which = which


class BadCells(NumberError):
    """The count of cells is no integer of at least 1."""

    def __init__(self, cells):
        super().__init__()
        self.cells = cells


class TextError(VaultError):
    """Faults of names and of texts that are read."""


class BadName(TextError):
    """The value is no name of the kind that is due."""

    def __init__(self, name):
        super().__init__()
        self.name = name


class BadForm(TextError):
    """The piece number `at` of the text is no term."""

    def __init__(self, text, at):
        super().__init__()
        self.text = text
        self.at = at


class BadFormula(TextError):
    """What stands at the index `at` of the text cannot stand there."""

    def __init__(self, text, at):
        super().__init__()
        self.text = text
        self.at = at


class BadSheet(TextError):
    """The line of the sheet has a fault of the kind `why`."""

    def __init__(self, line, why):
        super().__init__()
        self.line = line
        self.why = why


class ShapeError(VaultError):
    """Faults of formulas, lots, trees and leases."""


class BadGate(ShapeError):
    """The part is no formula that is allowed there."""

    def __init__(self, part):
        super().__init__()
        self.part = part


class BadLots(ShapeError):
    """The list of lots is empty or has the empty lot."""

    def __init__(self, lots):
        super().__init__()
        self.lots = lots


class BadTree(ShapeError):
    """The part is no tree that is allowed there."""

    def __init__(self, part):
        super().__init__()
        self.part = part


class Stranger(ShapeError):
    """The name is none of those that are known here."""

    def __init__(self, name):
        super().__init__()
        self.name = name


class NobodyLeft(ShapeError):
    """All leaves are lost."""


class FieldTooSmall(ShapeError):
    """A gate of so many places is too wide for the prime."""

    def __init__(self, places):
        super().__init__()
        self.places = places


class BadLease(ShapeError):
    """The lease does not lie within the times."""

    def __init__(self, first, last):
        super().__init__()
        self.first = first
        self.last = last


class PlanError(VaultError):
    """Faults of plans."""


class TwiceNamed(PlanError):
    """The name stands for two things."""

    def __init__(self, name):
        super().__init__()
        self.name = name


class UnknownName(PlanError):
    """The name is not declared as what its place asks."""

    def __init__(self, name):
        super().__init__()
        self.name = name


class LockMisused(PlanError):
    """The lock stands where a lock may not stand."""

    def __init__(self, name):
        super().__init__()
        self.name = name


class OldMisused(PlanError):
    """The old name stands where it may not stand."""

    def __init__(self, name):
        super().__init__()
        self.name = name


class TooBig(PlanError):
    """The plan has too many of what is told."""

    def __init__(self, what):
        super().__init__()
        self.what = what


class BadLock(PlanError):
    """The lock of this slot is none."""

    def __init__(self, slot):
        super().__init__()
        self.slot = slot


class BadStart(PlanError):
    """The start has what only deeds may have."""


class CourseError(VaultError):
    """Faults of courses and of draws."""


class NoDeed(CourseError):
    """The name at the place `at` is no deed's."""

    def __init__(self, at, name):
        super().__init__()
        self.at = at
        self.name = name


class Barred(CourseError):
    """The deed at the place `at` is not allowed there."""

    def __init__(self, at, name):
        super().__init__()
        self.at = at
        self.name = name


class NoDraw(CourseError):
    """There is no draw for the slot."""

    def __init__(self, slot):
        super().__init__()
        self.slot = slot


class KnowError(VaultError):
    """Faults of what is known, told or opened."""


class Held(KnowError):
    """The form is in the space, so nothing blinds for it."""

    def __init__(self, form):
        super().__init__()
        self.form = form


class NotHeld(KnowError):
    """The form is not in the space."""

    def __init__(self, form):
        super().__init__()
        self.form = form


class Unfit(KnowError):
    """The lot does not bring the secret."""

    def __init__(self, lot):
        super().__init__()
        self.lot = lot


class FalseShare(KnowError):
    """The told pair number `at` is false."""

    def __init__(self, at):
        super().__init__()
        self.at = at


class WrongKey(KnowError):
    """The key number `at` does not open the box."""

    def __init__(self, at):
        super().__init__()
        self.at = at


class PaperError(VaultError):
    """Faults of papers that are checked."""


class BadStep(PaperError):
    """The step number `at` is wrong."""

    def __init__(self, at):
        super().__init__()
        self.at = at


class BadBlind(PaperError):
    """The blind paper has a fault of this kind."""

    def __init__(self, kind):
        super().__init__()
        self.kind = kind


class BadMove(PaperError):
    """The move number `at` is wrong."""

    def __init__(self, at):
        super().__init__()
        self.at = at


class NotShut(PaperError):
    """The entry number `at` has a fault of this kind."""

    def __init__(self, kind, at, deed):
        super().__init__()
        self.kind = kind
        self.at = at
        self.deed = deed


class NotOpen(PaperError):
    """The pair number `at` has a fault of this kind."""

    def __init__(self, kind, at, name):
        super().__init__()
        self.kind = kind
        self.at = at
        self.name = name


class NotTheft(PaperError):
    """What is told is no theft."""

    def __init__(self, why):
        super().__init__()
        self.why = why


class NotPrice(PaperError):
    """What is told is no price."""

    def __init__(self, kind):
        super().__init__()
        self.kind = kind
