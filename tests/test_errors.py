"""Point [5] and the interface of errors.py."""

import unittest

from holdingsshut import errors

BASES = ["NumberError", "TextError", "ShapeError", "PlanError", "CourseError", "KnowError", "PaperError"]
CLASSES = {
    "VaultError": {"TooMany": ["limit"]},
    "NumberError": {
        "BadPrime": ["value"], "NoInverse": ["value"], "NoNumber": ["name"], "BadTable": ["which"],
        "BadCells": ["cells"],
    },
    "TextError": {
        "BadName": ["name"], "BadForm": ["text", "at"], "BadFormula": ["text", "at"], "BadSheet": ["line", "why"],
    },
    "ShapeError": {
        "BadGate": ["part"], "BadLots": ["lots"], "BadTree": ["part"], "Stranger": ["name"], "NobodyLeft": [],
        "FieldTooSmall": ["places"], "BadLease": ["first", "last"],
    },
    "PlanError": {
        "TwiceNamed": ["name"], "UnknownName": ["name"], "LockMisused": ["name"], "OldMisused": ["name"],
        "TooBig": ["what"], "BadLock": ["slot"], "BadStart": [],
    },
    "CourseError": {"NoDeed": ["at", "name"], "Barred": ["at", "name"], "NoDraw": ["slot"]},
    "KnowError": {
        "Held": ["form"], "NotHeld": ["form"], "Unfit": ["lot"], "FalseShare": ["at"], "WrongKey": ["at"],
    },
    "PaperError": {
        "BadStep": ["at"], "BadBlind": ["kind"], "BadMove": ["at"], "NotShut": ["kind", "at", "deed"],
        "NotOpen": ["kind", "at", "name"], "NotTheft": ["why"], "NotPrice": ["kind"],
    },
}
VALUES = ["x", 7, None, True, (("a", 1),), ["a"], {"a": 1}, 10**39]


def leaves():
    for base, classes in CLASSES.items():
        for name, attributes in classes.items():
            yield base, name, attributes


class ErrorClasses(unittest.TestCase):
    def test_base_of_all_is_a_value_error(self):
        self.assertEqual(errors.VaultError.__bases__, (ValueError,))

    def test_bases_stand_directly_under_the_base_of_all(self):
        for name in BASES:
            self.assertEqual(getattr(errors, name).__bases__, (errors.VaultError,), name)

    def test_each_class_stands_directly_under_its_base_and_no_other(self):
        for base, name, _ in leaves():
            self.assertEqual(getattr(errors, name).__bases__, (getattr(errors, base),), name)

    def test_classes_are_defined_in_the_file(self):
        for _, name, _ in leaves():
            self.assertEqual(getattr(errors, name).__module__, "holdingsshut.errors")


class ErrorObjects(unittest.TestCase):
    def test_arguments_become_attributes_as_they_were_handed_in(self):
        for _, name, attributes in leaves():
            for first in range(len(VALUES)):
                told = [VALUES[(first + k) % len(VALUES)] for k in range(len(attributes))]
                error = getattr(errors, name)(*told)
                self.assertEqual(len(told), len(attributes))
                for attribute, value in zip(attributes, told):
                    self.assertIs(getattr(error, attribute), value, (name, attribute))

    def test_wrong_counts_of_arguments_are_refused(self):
        for _, name, attributes in leaves():
            with self.assertRaises(TypeError):
                getattr(errors, name)(*VALUES[:len(attributes) + 1])
            if attributes:
                with self.assertRaises(TypeError):
                    getattr(errors, name)()

    def test_word_is_the_name_in_lower_case(self):
        for _, name, attributes in leaves():
            error = getattr(errors, name)(*VALUES[:len(attributes)])
            self.assertEqual(error.word, name.lower())
        self.assertEqual(errors.BadPrime(4).word, "badprime")
        self.assertEqual(errors.TooMany(4).word, "toomany")

    def test_errors_are_raised_and_caught_by_their_bases(self):
        for base, name, attributes in leaves():
            for caught in [name, base, "VaultError"]:
                with self.assertRaises(getattr(errors, caught)):
                    raise getattr(errors, name)(*VALUES[:len(attributes)])
            with self.assertRaises(ValueError):
                raise getattr(errors, name)(*VALUES[:len(attributes)])


if __name__ == "__main__":
    unittest.main()
