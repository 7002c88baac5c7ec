"""Points [6], [7] and [8] and the interface of forms.py."""

import random
import unittest

from holdingsshut.errors import BadForm, BadName, NoNumber
from holdingsshut.forms import (
    dated_name, form_names, is_dated, is_name, is_old, make_form, minus, normal, old_name, plain_name, plus,
    read_form, renamed, show_form, times, unit, value,
)
from tests.helpers import (
    BAD_NAMES, BAD_VALUES, BIG, GOOD_NAMES, PRIMES, all_forms, as_form, check_bad_primes, check_raises, random_form,
)

GOOD_DATES = ["0", "1", "9", "10", "99", "100", "999", "1000", "9999"]
BAD_DATES = ["", "00", "01", "010", "10000", "12345", "a", "1a", "-1", "+1", " 1", "1 ", "1.", "1~", "1#1", "\u0661"]
NAMES = ["a", "b", "b.1~", "k#10", "k#2", "z"]


class Names(unittest.TestCase):
    def test_plain_names(self):
        for name in GOOD_NAMES:
            self.assertIs(is_name(name), True, name)
        for name in BAD_NAMES + BAD_VALUES:
            self.assertIs(is_name(name), False, name)

    def test_each_sign_by_itself(self):
        letters = "abcdefghijklmnopqrstuvwxyz"
        for code in range(256):
            sign = chr(code)
            self.assertIs(is_name(sign), sign in letters, sign)
            self.assertIs(is_name("a" + sign), sign in letters + "0123456789.", sign)

    def test_old_names(self):
        for name in GOOD_NAMES:
            self.assertIs(is_old(name + "~"), True, name)
            self.assertIs(is_old(name), False, name)
            self.assertIs(is_old(name + "~~"), False, name)
            self.assertIs(is_old("~" + name), False, name)
        for name in BAD_NAMES:
            self.assertIs(is_old(name + "~"), False, name)
        for value_ in BAD_VALUES + ["", "~", "a#0~", "a~ ", "a~\n"]:
            self.assertIs(is_old(value_), False, value_)

    def test_dated_names(self):
        for name in GOOD_NAMES:
            for date in GOOD_DATES:
                self.assertIs(is_dated(name + "#" + date), True, (name, date))
            for date in BAD_DATES:
                self.assertIs(is_dated(name + "#" + date), False, (name, date))
            self.assertIs(is_dated(name), False, name)
        for name in BAD_NAMES:
            self.assertIs(is_dated(name + "#1"), False, name)
        for value_ in BAD_VALUES:
            self.assertIs(is_dated(value_), False, value_)

    def test_kinds_exclude_each_other(self):
        for name in ["a", "a~", "a#1"]:
            self.assertEqual([is_name(name), is_old(name), is_dated(name)].count(True), 1)

    def test_old_name_and_dated_name(self):
        self.assertEqual(old_name("k.a"), "k.a~")
        self.assertEqual(dated_name("k.a", 0), "k.a#0")
        self.assertEqual(dated_name("k.a", 10), "k.a#10")
        self.assertEqual(dated_name("k.a", 9999), "k.a#9999")
        for name in GOOD_NAMES:
            self.assertTrue(is_old(old_name(name)))
            self.assertTrue(is_dated(dated_name(name, 305)))

    def test_old_name_and_dated_name_refuse_all_but_plain_names(self):
        for name in BAD_NAMES + BAD_VALUES + ["a~", "a#3"]:
            check_raises(self, BadName, {"name": name}, lambda: old_name(name))
            check_raises(self, BadName, {"name": name}, lambda: dated_name(name, 0))

    def test_plain_name(self):
        for name in GOOD_NAMES:
            self.assertEqual(plain_name(name), name)
            self.assertEqual(plain_name(name + "~"), name)
            self.assertEqual(plain_name(name + "#0"), name)
            self.assertEqual(plain_name(name + "#9999"), name)
        for name in ["", "~", "#1", "a#", "a#01", "a#1~", "a~#1", "a~~", "A", "A~", "1#1"] + BAD_VALUES:
            check_raises(self, BadName, {"name": name}, lambda: plain_name(name))


class MakingForms(unittest.TestCase):
    def test_make_form_sorts_adds_and_drops(self):
        self.assertEqual(make_form(5, [("b", 7), ("a", 1), ("b", 3)]), (("a", 1),))
        self.assertEqual(make_form(7, [("b", 2), ("a", 1), ("b", 3)]), (("a", 1), ("b", 5)))
        self.assertEqual(make_form(7, []), ())
        self.assertEqual(make_form(2, [("a", 1), ("a", 1)]), ())
        self.assertEqual(make_form(97, [("a", 97), ("b", 0), ("c", -97)]), ())
        self.assertEqual(make_form(97, (("a", -1),)), (("a", 96),))

    def test_make_form_orders_names_as_strings(self):
        pairs = [("k#2", 1), ("k~", 1), ("k", 1), ("k.1", 1), ("k#10", 1), ("j9", 1)]
        names = ["j9", "k", "k#10", "k#2", "k.1", "k~"]
        self.assertEqual(make_form(3, pairs), tuple((name, 1) for name in names))

    def test_make_form_takes_integers_of_any_sign_and_of_40_digits(self):
        for p in PRIMES:
            for number in [BIG, -BIG, 10**40 - 1, -(10**40 - 1), p, -p, 0, 1, -1]:
                self.assertEqual(make_form(p, [("a", number)]), as_form(p, {"a": number}))
                self.assertEqual(make_form(p, [("a", number), ("a", BIG)]), as_form(p, {"a": number + BIG}))

    def test_make_form_refuses_the_first_value_that_is_no_name(self):
        for name in BAD_VALUES + ["", "A", "a#01", "a~~", "0"]:
            check_raises(self, BadName, {"name": name}, lambda: make_form(5, [("a", 1), (name, 1), ("B", 1)]))
            check_raises(self, BadName, {"name": name}, lambda: make_form(5, [("a~", 1), (name, 0), ("B", 1)]))
            check_raises(self, BadName, {"name": name}, lambda: make_form(5, [(name, 1), (name, -1)]))

    def test_unit(self):
        for name in ["a", "a~", "a#0", "k.a#9999"]:
            self.assertEqual(unit(name), ((name, 1),))
        for name in BAD_VALUES + ["", "A", "a#", "~"]:
            check_raises(self, BadName, {"name": name}, lambda: unit(name))

    def test_bad_prime_goes_first(self):
        check_bad_primes(self, lambda p: make_form(p, [(5, 1)]))
        check_bad_primes(self, lambda p: make_form(p, []))

    def test_pairs_stay_as_they_were(self):
        pairs = [("b", 7), ("a", 1), ("b", 3)]
        make_form(5, pairs)
        self.assertEqual(pairs, [("b", 7), ("a", 1), ("b", 3)])


class Arithmetic(unittest.TestCase):
    def test_small_sums(self):
        f, g = (("a", 1), ("b", 2)), (("b", 3), ("c", 4))
        self.assertEqual(plus(5, f, g), (("a", 1), ("c", 4)))
        self.assertEqual(minus(5, f, g), (("a", 1), ("b", 4), ("c", 1)))
        self.assertEqual(minus(5, f, f), ())
        self.assertEqual(plus(2, (("a", 1),), (("a", 1),)), ())
        self.assertEqual(times(5, f, by=3), (("a", 3), ("b", 1)))
        self.assertEqual(times(5, f, by=0), ())
        self.assertEqual(times(5, f, by=-10), ())
        self.assertEqual(plus(97, (("a", 96),), (("a", 2),)), (("a", 1),))

    def test_arithmetic_agrees_with_coefficients(self):
        chance = random.Random(1)
        for p in PRIMES:
            for _ in range(40):
                f, g = random_form(chance, p, NAMES, 6), random_form(chance, p, NAMES, 6)
                by = chance.choice([0, 1, -1, p, chance.randint(-p, p), BIG, -BIG])
                a, b = dict(f), dict(g)
                total = {name: a.get(name, 0) + b.get(name, 0) for name in NAMES}
                less = {name: a.get(name, 0) - b.get(name, 0) for name in NAMES}
                self.assertEqual(plus(p, f, g), as_form(p, total))
                self.assertEqual(minus(p, f, g), as_form(p, less))
                self.assertEqual(times(p, f, by=by), as_form(p, {name: by * a[name] for name in a}))

    def test_normal(self):
        self.assertEqual(normal(5, ()), ())
        self.assertEqual(normal(5, (("a", 3), ("b", 1))), (("a", 1), ("b", 2)))
        chance = random.Random(2)
        for p in PRIMES:
            for _ in range(20):
                f = random_form(chance, p, NAMES, 6)
                g = normal(p, f)
                if f:
                    self.assertEqual(g[0], (f[0][0], 1))
                    self.assertEqual(times(p, g, by=f[0][1]), f)

    def test_form_names(self):
        self.assertEqual(form_names(()), ())
        self.assertEqual(form_names((("a", 1), ("b~", 2), ("c#1", 1))), ("a", "b~", "c#1"))

    def test_value(self):
        f = (("a", 2), ("b~", 3))
        self.assertEqual(value(5, f, {"a": 4, "b~": 1, "c": 9}), 1)
        self.assertEqual(value(5, f, {"a": -4, "b~": BIG}), (-8 + 3 * BIG) % 5)
        self.assertEqual(value(5, (), {}), 0)
        self.assertEqual(value(2, (("a", 1),), {"a": -1}), 1)
        self.assertEqual(value(97, (("a", 96),), {"a": 96}), 1)

    def test_value_refuses_the_first_missing_name(self):
        f = (("a", 2), ("b", 3), ("c", 1))
        check_raises(self, NoNumber, {"name": "b"}, lambda: value(5, f, {"a": 4}))
        check_raises(self, NoNumber, {"name": "a"}, lambda: value(5, f, {}))
        check_raises(self, NoNumber, {"name": "c"}, lambda: value(5, f, {"b": 0, "a": 0, "c~": 1}))

    def test_renamed_replaces_all_names_at_once(self):
        f = (("a", 1), ("b", 2), ("c", 3))
        self.assertEqual(renamed(5, f, {"a": "b", "b": "a"}), (("a", 2), ("b", 1), ("c", 3)))
        self.assertEqual(renamed(5, f, {"a": "b", "b": "c", "c": "d"}), (("b", 1), ("c", 2), ("d", 3)))
        self.assertEqual(renamed(5, f, {"c": "b"}), (("a", 1),))
        self.assertEqual(renamed(7, f, {"c": "b"}), (("a", 1), ("b", 5)))
        self.assertEqual(renamed(5, f, {"a": "a~", "x": "y"}), (("a~", 1), ("b", 2), ("c", 3)))
        self.assertEqual(renamed(5, f, {"a": "z#3"}), (("b", 2), ("c", 3), ("z#3", 1)))
        self.assertEqual(renamed(5, (), {"a": "b"}), ())
        self.assertEqual(renamed(5, f, {}), f)

    def test_bad_prime_goes_first(self):
        f = (("a", 1),)
        check_bad_primes(self, lambda p: plus(p, f, f))
        check_bad_primes(self, lambda p: minus(p, f, f))
        check_bad_primes(self, lambda p: times(p, f, by=2))
        check_bad_primes(self, lambda p: normal(p, ()))
        check_bad_primes(self, lambda p: normal(p, f))
        check_bad_primes(self, lambda p: value(p, f, {}))
        check_bad_primes(self, lambda p: renamed(p, f, {}))
        check_bad_primes(self, lambda p: renamed(p, (), {}))

    def test_arguments_stay_and_answers_repeat(self):
        world, table = {"a": 9, "b": -1}, {"a": "b"}
        f = (("a", 1), ("b", 2))
        answers = [(value(5, f, world), renamed(5, f, table)) for _ in range(2)]
        self.assertEqual(answers[0], answers[1])
        self.assertEqual((world, table), ({"a": 9, "b": -1}, {"a": "b"}))


class Written(unittest.TestCase):
    def test_show_form(self):
        self.assertEqual(show_form(()), "0")
        self.assertEqual(show_form((("a", 1),)), "a")
        self.assertEqual(show_form((("a", 1), ("b.1~", 3))), "a + 3*b.1~")
        self.assertEqual(show_form((("a", 96), ("k#10", 1), ("k#2", 10))), "96*a + k#10 + 10*k#2")

    def test_examples_of_reading(self):
        self.assertEqual(read_form(5, "7*b + a + 3*b"), (("a", 1),))
        check_raises(self, BadForm, {"text": "a + 0*b", "at": 1}, lambda: read_form(5, "a + 0*b"))

    def test_reading_is_liberal(self):
        self.assertEqual(read_form(5, "0"), ())
        self.assertEqual(read_form(5, "b + a"), (("a", 1), ("b", 1)))
        self.assertEqual(read_form(5, "1*a"), (("a", 1),))
        self.assertEqual(read_form(5, "5*a"), ())
        self.assertEqual(read_form(2, "a + a"), ())
        self.assertEqual(read_form(97, "999999*a + 3*b~ + c#9999"), (("a", 999999 % 97), ("b~", 3), ("c#9999", 1)))
        self.assertEqual(read_form(97, "100000*a"), (("a", 100000 % 97),))
        self.assertEqual(read_form(7, "a + a + a + 3*a + b + 2*a"), (("a", 1), ("b", 1)))

    def test_reading_what_is_shown(self):
        for p in [2, 3]:
            for f in all_forms(p, ["a", "b~", "c#0", "k.a"]):
                self.assertEqual(read_form(p, show_form(f)), f)
        chance = random.Random(3)
        for p in PRIMES:
            for _ in range(30):
                f = random_form(chance, p, NAMES, 6)
                self.assertEqual(read_form(p, show_form(f)), f)

    def test_bad_pieces(self):
        bad = [
            "", " ", "0*a", "00", "01*a", "1", "12", "a*b", "*a", "3*", "3*a*b", "3**a", "-a", "-1*a", "+3*a", "3 *a",
            "3* a", "a ", " a", "A", "3*A", "a~~", "a#01", "a#", "1000000*a", "1234567*a", "a+b", "a +b", "a+ b",
            "a  +b", "3*0", "3.*a", "a3*b", "\u0661*a", "a\n", "2*1a", "a + ", " + a",
        ]
        for piece in bad:
            if " + " not in piece:
                check_raises(self, BadForm, {"text": piece, "at": 0}, lambda: read_form(5, piece))
            for before in range(3):
                text = " + ".join(["a"] * before + ["2*b"] + [piece] + ["?"])
                at = before + 1 + (1 if piece == "a + " else 0)
                check_raises(self, BadForm, {"text": text, "at": at}, lambda: read_form(5, text))
        for text, at in [("0 + a", 0), ("a + 0", 1), ("0 + 0", 0), (" 0", 0), ("0 ", 0)]:
            check_raises(self, BadForm, {"text": text, "at": at}, lambda: read_form(5, text))

    def test_the_text_is_split_from_left_to_right(self):
        check_raises(self, BadForm, {"text": "a + + b", "at": 1}, lambda: read_form(5, "a + + b"))
        check_raises(self, BadForm, {"text": "a +  + b", "at": 1}, lambda: read_form(5, "a +  + b"))
        check_raises(self, BadForm, {"text": " + ", "at": 0}, lambda: read_form(5, " + "))
        check_raises(self, BadForm, {"text": "a + ", "at": 1}, lambda: read_form(5, "a + "))
        check_raises(self, BadForm, {"text": "b +  a", "at": 1}, lambda: read_form(5, "b +  a"))
        check_raises(self, BadForm, {"text": "b  + a", "at": 0}, lambda: read_form(5, "b  + a"))

    def test_bad_prime_goes_first(self):
        check_bad_primes(self, lambda p: read_form(p, ""))
        check_bad_primes(self, lambda p: read_form(p, "0"))
        check_bad_primes(self, lambda p: read_form(p, "a"))

    def test_a_long_text(self):
        text = " + ".join(["2*a"] * 3000)
        self.assertEqual(read_form(97, text), as_form(97, {"a": 6000}))


if __name__ == "__main__":
    unittest.main()
