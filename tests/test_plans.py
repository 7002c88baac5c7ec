"""Points [37], [38], [39], [14] and [25] and the interface of plans.py."""

import copy
import itertools
import unittest

from holdingsshut.errors import (
    BadGate, BadLock, BadName, BadStart, LockMisused, NoDeed, OldMisused, TooBig, TwiceNamed, UnknownName,
)
from holdingsshut.plans import Deed, Plan
from tests.helpers import BAD_NAMES, BAD_VALUES, BIG, check_bad_primes, check_raises

NO_TEXTS = [None, True, False, 0, 5, 1.5, b"a", ("a",), ["a"], {"a": 1}]


def e(name, by=1):
    return [[name, by]]


def parts():
    """A plan in lists at every level, with something in each of its places."""
    return {
        "p": 5,
        "marks": ["m", "n"],
        "devices": [["d", [e("a"), e("b", 2)], "m"], ["f", [], None]],
        "locks": [["v", 0, 1, [4]], ["w", 1, 3, [0, 2]]],
        "standing": [[[e("a")], e("b")], [[e("a"), e("b")], e("c")]],
        "roads": [["s", "m"], ["a", None]],
        "promises": [["s", (1, ("d", "f")), "n"], ["b", "d", None]],
        "start": {
            "name": "start", "sets": ["n"], "renews": ["a", "b", "c", "s", "v", "w"],
            "letters": [[[e("w")], e("a"), True], [[e("a")], e("s"), False]], "tells": [e("c")],
        },
        "deeds": [
            {
                "name": "go", "when": "n", "unless": "m", "sets": ["m"], "clears": ["n"], "renews": ["a", "b"],
                "letters": [[[e("a~"), e("w")], e("a"), True], [[e("b")], [["b", 1], ["b~", 4]], False]],
                "tells": [[["b~", 2], ["c", 1]]], "hands": ["d"],
            },
            {
                "name": "back", "when": (2, ("m", "n")), "unless": None, "sets": ["n"], "clears": ["m"], "renews": ["c"],
                "letters": [[[e("a")], [["c", 1], ["c~", 1]], True]], "tells": [e("c~")], "hands": ["f", "d"],
            },
        ],
    }


def build(told):
    told = dict(told)
    told["start"] = Deed(**told["start"])
    told["deeds"] = [Deed(**deed) for deed in told["deeds"]]
    return Plan(told.pop("p"), **told)


def changed(*changes):
    """The parts after changes in place."""
    told = parts()
    for change in changes:
        change(told)
    return told


def at(*path):
    """The way to what stands at the path in the parts: a function."""
    def get(told):
        for step in path:
            told = told[step]
        return told

    return get


def put(*path_and_value):
    """The change that puts a value at a path."""
    *path, last, value = path_and_value

    def change(told):
        at(*path)(told)[last] = copy.deepcopy(value)

    return change


def add(*path_and_value):
    """The change that appends a value to the list at a path."""
    *path, value = path_and_value
    return lambda told: at(*path)(told).append(copy.deepcopy(value))


def first(*path_and_value):
    """The change that puts a value before all others of the list at a path."""
    *path, value = path_and_value
    return lambda told: at(*path)(told).insert(0, copy.deepcopy(value))


def frozen(value):
    return tuple(frozen(item) for item in value) if isinstance(value, list) else value


class Deeds(unittest.TestCase):
    def test_defaults(self):
        deed = Deed("x")
        self.assertEqual((deed.name, deed.when, deed.unless), ("x", None, None))
        for lot in [deed.sets, deed.clears, deed.renews, deed.letters, deed.tells, deed.hands]:
            self.assertEqual(lot, ())
            self.assertIsInstance(lot, tuple)

    def test_lists_become_tuples_at_every_level(self):
        told = parts()["deeds"][0]
        deed = Deed(**told)
        for name, value in told.items():
            self.assertEqual(getattr(deed, name), frozen(value))
        self.assertEqual(deed.letters[0], (((("a~", 1),), (("w", 1),)), (("a", 1),), True))
        self.assertEqual(deed.tells, ((("b~", 2), ("c", 1)),))
        for field in ["sets", "clears", "renews", "letters", "tells", "hands"]:
            self.assertEqual(getattr(Deed("x", **{field: frozen(told[field])}), field), frozen(told[field]))

    def test_order_is_kept(self):
        deed = Deed("x", sets=["z", "a"], hands=["q", "b"], tells=[e("z"), e("a")])
        self.assertEqual((deed.sets, deed.hands), (("z", "a"), ("q", "b")))
        self.assertEqual(deed.tells, ((("z", 1),), (("a", 1),)))

    def test_later_changes_have_no_effect(self):
        told = parts()["deeds"][0]
        wanted = frozen([told[name] for name in sorted(told)])
        deed = Deed(**told)
        for field in ["sets", "clears", "renews", "hands"]:
            told[field].append("zz")
        told["letters"][0][0][0][0][0] = "zz"
        told["letters"][0][1].append(["zz", 1])
        told["letters"].append([[e("zz")], e("zz"), True])
        told["tells"][0][0][0] = "zz"
        told["tells"].clear()
        self.assertEqual(tuple(getattr(deed, name) for name in sorted(told)), wanted)

    def test_it_raises_nothing(self):
        formulas = NO_TEXTS + [[2, ["a"]], (0, ()), "A", ""]
        for value in formulas:
            deed = Deed(value, when=value, unless=value, sets=[value, value], clears=[value], renews=[value], hands=[value])
            self.assertEqual((deed.name, deed.when, deed.unless), (value, value, value))
            self.assertEqual((deed.sets, deed.clears, deed.renews, deed.hands), ((value, value), (value,), (value,), (value,)))
        deed = Deed("x", letters=[[[], [], True], [[e("A")] * 9, e("a~"), False]], tells=[[], e("")])
        self.assertEqual(deed.letters[0], ((), (), True))
        self.assertEqual((len(deed.letters[1][0]), deed.tells), (9, ((), (("", 1),))))

    def test_formulas_stay_as_they_are(self):
        gate = [2, ["a", "b"]]
        deed = Deed("x", when=gate, unless=(1, ["a"]))
        self.assertEqual((deed.when, deed.unless), ([2, ["a", "b"]], (1, ["a"])))


class Plans(unittest.TestCase):
    def test_attributes(self):
        told = parts()
        plan = build(told)
        for name in ["p", "marks", "devices", "locks", "standing", "roads", "promises"]:
            self.assertEqual(getattr(plan, name), frozen(told[name]), name)
        self.assertIsInstance(plan.start, Deed)
        self.assertIsInstance(plan.deeds, tuple)
        for deed, wanted in zip((plan.start,) + plan.deeds, [told["start"]] + told["deeds"]):
            self.assertIsInstance(deed, Deed)
            for name, value in wanted.items():
                self.assertEqual(getattr(deed, name), frozen(value))

    def test_defaults(self):
        plan = Plan(2, start=Deed("start"))
        for value in [plan.marks, plan.devices, plan.locks, plan.standing, plan.roads, plan.promises, plan.deeds]:
            self.assertEqual(value, ())
        self.assertEqual((plan.p, plan.slots, plan.secrets, list(plan)), (2, (), (), []))

    def test_tuples_are_as_good_as_lists(self):
        told = frozen_parts = parts()
        for name in ["marks", "devices", "locks", "standing", "roads", "promises"]:
            frozen_parts[name] = frozen(told[name])
        for deed in [frozen_parts["start"]] + frozen_parts["deeds"]:
            for name, value in deed.items():
                deed[name] = frozen(value)
        first_plan, second = build(parts()), build(frozen_parts)
        for name in ["p", "marks", "devices", "locks", "standing", "roads", "promises", "slots", "secrets"]:
            self.assertEqual(getattr(first_plan, name), getattr(second, name))
        deeds = Plan(5, start=Deed("x", renews=["a"]), deeds=(Deed("one"), Deed("two"))).deeds
        self.assertEqual([deed.name for deed in deeds], ["one", "two"])

    def test_slots_secrets_and_iteration(self):
        plan = build(parts())
        self.assertEqual(plan.slots, ("a", "b", "c", "s", "v", "w"))
        self.assertEqual(plan.secrets, ("s", "a"))
        self.assertEqual([deed.name for deed in plan], ["go", "back"])
        self.assertEqual([deed.name for deed in plan], ["go", "back"])
        self.assertEqual(build(changed(put("start", "renews", ["w", "s", "v", "c", "b", "a"]))).slots, ("w", "s", "v", "c", "b", "a"))

    def test_deed_named(self):
        plan = build(parts())
        self.assertEqual(plan.deed_named("back").renews, ("c",))
        self.assertEqual(plan.deed_named("go").sets, ("m",))
        for name in ["start", "", "GO", "go~", "g"] + NO_TEXTS:
            check_raises(self, NoDeed, {"at": 0, "name": name}, lambda: plan.deed_named(name))
        # A deed may have the start's name; then it is the deed that is found.
        told = changed(put("deeds", 1, "name", "start"))
        self.assertEqual(build(told).deed_named("start").renews, ("c",))

    def test_later_changes_of_lists_have_no_effect(self):
        told = parts()
        start, deeds = Deed(**told["start"]), [Deed(**deed) for deed in told["deeds"]]
        lists = {name: told[name] for name in ["marks", "devices", "locks", "standing", "roads", "promises"]}
        plan = Plan(5, start=start, deeds=deeds, **lists)
        wanted = frozen([parts()[name] for name in lists])
        told["devices"][0][1][0][0][0] = "zz"
        told["locks"][0][3].append(7)
        told["standing"][0][0][0][0][0] = "zz"
        told["roads"][0][0] = "zz"
        told["promises"][0][2] = "zz"
        for name in lists:
            told[name].clear()
        deeds.clear()
        self.assertEqual(tuple(getattr(plan, name) for name in lists), wanted)
        self.assertEqual(len(plan.deeds), 2)

    def test_the_plan_keeps_copies_of_deeds(self):
        start, deed = Deed("start", renews=["a"]), Deed("go", renews=["a"])
        plan = Plan(5, start=start, deeds=[deed])
        deed.renews = ["b"]
        deed.name = "other"
        start.renews = ("z",)
        start.tells = [e("q")]
        self.assertEqual((plan.slots, plan.start.tells, plan.deeds[0].name, plan.deeds[0].renews), (("a",), (), "go", ("a",)))

    def test_attributes_of_deeds_that_the_caller_sets(self):
        start, deed = Deed("start"), Deed("go")
        start.renews = ["a", "b"]
        deed.tells = [[["a", 1]]]
        deed.letters = [[[e("a")], e("b"), True]]
        deed.when = "m"
        plan = Plan(5, start=start, marks=["m"], deeds=[deed])
        deed.tells[0][0][0] = "zz"
        self.assertEqual(plan.slots, ("a", "b"))
        self.assertEqual(plan.deeds[0].tells, ((("a", 1),),))
        self.assertEqual(plan.deeds[0].letters, ((((("a", 1),),), (("b", 1),), True),))
        self.assertEqual(plan.deeds[0].when, "m")
        self.assertEqual(deed.letters, [[[e("a")], e("b"), True]])

    def test_the_same_deed_may_serve_in_two_plans(self):
        deed = Deed("go", renews=["a"])
        one = Plan(5, start=Deed("start", renews=["a"]), deeds=[deed])
        two = Plan(7, start=Deed("start", renews=["a", "b"]), deeds=[deed])
        self.assertEqual((one.deeds[0].renews, two.deeds[0].renews), (("a",), ("a",)))

    def test_the_name_of_the_start_is_free(self):
        for name in BAD_NAMES + BAD_VALUES + ["go", "m", "a"]:
            self.assertEqual(build(changed(put("start", "name", name))).start.name, name)

    def test_forms_may_be_zero(self):
        build(changed(add("deeds", 0, "tells", []), add("deeds", 0, "letters", [[[]], [], True]), add("devices", 1, 1, [])))

    def test_promises_of_locks_and_equal_out_marks_are_allowed(self):
        build(changed(add("promises", ["w", "d", None]), put("devices", 1, 2, "m")))

    def test_bad_primes(self):
        check_bad_primes(self, lambda p: build(changed(put("p", p), put("marks", ["", ""]))))


class Names(unittest.TestCase):
    def test_names_that_are_none(self):
        for name in BAD_NAMES + BAD_VALUES + ["a#0", "a#10", "x~"]:
            for change in [
                add("marks", name), first("marks", name), add("start", "renews", name), first("start", "renews", name),
                add("devices", [name, [], None]), put("deeds", 1, "name", name),
            ]:
                check_raises(self, BadName, {"name": name}, lambda: build(changed(change)))

    def test_names_of_other_kinds_are_not_looked_at_here(self):
        for name in ["A", "", "a~", "a#0"]:
            for change in [add("deeds", 0, "sets", name), add("roads", [name, None]), add("deeds", 1, "hands", name)]:
                check_raises(self, UnknownName, {"name": name}, lambda: build(changed(change)))


REPEATED = [
    (add("marks", "m"), "m"),
    (add("start", "renews", "c"), "c"),
    (add("devices", ["d", [], None]), "d"),
    (lambda told: told["deeds"].append(dict(told["deeds"][1])), "back"),
    (add("roads", ["s", "m"]), "s"),
    (add("locks", ["w", 0, 1, [1]]), "w"),
    (put("start", "sets", ["n", "n"]), "n"),
    (put("start", "clears", ["q1", "q1"]), "q1"),
    (put("start", "hands", ["q2", "q2"]), "q2"),
    (add("deeds", 0, "sets", "m"), "m"),
    (add("deeds", 0, "clears", "n"), "n"),
    (add("deeds", 0, "renews", "a"), "a"),
    (add("deeds", 0, "hands", "d"), "d"),
    (put("deeds", 0, "clears", ["n", "m"]), "m"),
    (put("deeds", 1, "sets", ["q3", "q3"]), "q3"),
    (put("deeds", 1, "clears", ["q4", "q4"]), "q4"),
    (put("deeds", 1, "renews", ["q5", "q5"]), "q5"),
    (put("deeds", 1, "hands", ["q6", "q6"]), "q6"),
]


class Repeated(unittest.TestCase):
    def test_each_list(self):
        for change, name in REPEATED:
            check_raises(self, TwiceNamed, {"name": name}, lambda: build(changed(change)))

    def test_the_first_list_counts(self):
        for (k, (one, name)), (j, (two, _)) in itertools.combinations(enumerate(REPEATED), 2):
            # These two change the same list.
            if (k, j) != (10, 13):
                check_raises(self, TwiceNamed, {"name": name}, lambda: build(changed(two, one)))

    def test_the_first_place_whose_name_stood_before_counts(self):
        check_raises(self, TwiceNamed, {"name": "y"}, lambda: build(changed(put("marks", ["m", "n", "y", "y", "m"]))))
        check_raises(self, TwiceNamed, {"name": "m"}, lambda: build(changed(put("marks", ["y", "m", "n", "m", "y"]))))
        told = changed(put("deeds", 0, "sets", ["x", "y", "z"]), put("deeds", 0, "clears", ["q", "z", "x"]))
        check_raises(self, TwiceNamed, {"name": "z"}, lambda: build(told))

    def test_sets_and_clears_go_behind_hands_and_before_the_next_deed(self):
        both = [put("deeds", 0, "clears", ["m"])]
        check_raises(self, TwiceNamed, {"name": "d"}, lambda: build(changed(*both, put("deeds", 0, "hands", ["d", "d"]))))
        check_raises(self, TwiceNamed, {"name": "m"}, lambda: build(changed(*both, put("deeds", 1, "sets", ["n", "n"]))))

    def test_sets_and_clears_of_the_start_are_not_compared(self):
        told = changed(put("start", "sets", ["n"]), put("start", "clears", ["n"]))
        check_raises(self, BadStart, {"word": "badstart"}, lambda: build(told))

    def test_texts_that_are_no_names_count(self):
        for name in ["", "A", "a~", "a#0"]:
            check_raises(self, TwiceNamed, {"name": name}, lambda: build(changed(put("deeds", 0, "sets", [name, name]))))
            check_raises(self, TwiceNamed, {"name": name}, lambda: build(changed(put("roads", [[name, None], [name, None]]))))

    def test_values_that_are_no_text_never_count(self):
        for value in NO_TEXTS:
            for field in ["sets", "clears", "renews", "hands"]:
                told = changed(put("deeds", 0, field, [value, value]))
                check_raises(self, UnknownName, {"name": value}, lambda: build(told))
            told = changed(put("roads", [[value, None], [value, None]]))
            check_raises(self, UnknownName, {"name": value}, lambda: build(told))
            told = changed(put("locks", [[value, 0, 1, [1]], [value, 0, 1, [1]]]))
            check_raises(self, UnknownName, {"name": value}, lambda: build(told))


def many(path, count, make):
    """The change that fills the list at a path up to a count."""
    def change(told):
        items = at(*path)(told)
        items.extend(make(k) for k in range(count - len(items)))

    return change


FORM = e("a")
SIZES = [
    ("marks", 12, lambda count: many(["marks"], count, lambda k: f"m{k}")),
    ("slots", 60, lambda count: many(["start", "renews"], count, lambda k: f"x{k}")),
    ("devices", 12, lambda count: many(["devices"], count, lambda k: [f"d{k}", [], None])),
    ("deeds", 24, lambda count: many(["deeds"], count, lambda k: {"name": f"deed{k}"})),
    ("drawer", 24, lambda count: many(["devices", 1, 1], count, lambda k: FORM)),
    ("locks", 4, lambda count: many(["locks"], count, lambda k: [f"x{k}", 0, 1, [1]])),
    ("standing", 80, lambda count: many(["standing"], count, lambda k: [[FORM], FORM])),
    ("roads", 16, lambda count: many(["roads"], count, lambda k: [f"x{k}", None])),
    ("promises", 16, lambda count: many(["promises"], count, lambda k: ["s", "d", None])),
    ("letters", 80, lambda count: many(["deeds", 1, "letters"], count, lambda k: [[FORM], FORM, True])),
    ("tells", 24, lambda count: many(["deeds", 1, "tells"], count, lambda k: FORM)),
    ("needs", 4, lambda count: many(["deeds", 1, "letters", 0, 0], count, lambda k: FORM)),
]


class Sizes(unittest.TestCase):
    def test_just_at_each_bound_and_just_beyond(self):
        slots = many(["start", "renews"], 25, lambda k: f"x{k}")
        for what, most, fill in SIZES:
            changes = [slots] if what in ("locks", "roads") else []
            self.assertIsInstance(build(changed(*changes, fill(most))), Plan)
            check_raises(self, TooBig, {"what": what}, lambda: build(changed(*changes, fill(most + 1))))

    def test_bounds_of_the_start(self):
        for field, most, item in [("letters", 80, [[FORM], FORM, True]), ("tells", 24, FORM)]:
            build(changed(put("start", field, [item] * most)))
            check_raises(self, TooBig, {"what": field}, lambda: build(changed(put("start", field, [item] * (most + 1)))))

    def test_bounds_hold_for_each_part_by_itself(self):
        build(changed(put("devices", 0, 1, [FORM] * 24), put("devices", 1, 1, [FORM] * 24)))
        build(changed(*[put("deeds", k, "tells", [FORM] * 24) for k in [0, 1]], put("start", "tells", [FORM] * 24)))

    def test_counts_of_needs(self):
        for path in [("standing",), ("start", "letters"), ("deeds", 0, "letters"), ("deeds", 1, "letters")]:
            heard = [] if path == ("standing",) else [True]
            for count in [0, 1, 4, 5, 6]:
                told = changed(add(*path, [[FORM] * count, FORM] + heard))
                if 1 <= count <= 4:
                    self.assertIsInstance(build(told), Plan)
                else:
                    check_raises(self, TooBig, {"what": "needs"}, lambda: build(told))

    def test_the_first_word_of_the_table_counts(self):
        for (one, most, fill), (_, other, fill_more) in itertools.combinations(SIZES, 2):
            told = changed(fill_more(other + 1), fill(most + 1))
            check_raises(self, TooBig, {"what": one}, lambda: build(told))


class Locks(unittest.TestCase):
    def test_locks_at_their_bounds(self):
        for salt, length, candidates in [(0, 1, [0]), (4, 120, [0, 1, 2, 3, 4]), (0, 1, (3, 1))]:
            plan = build(changed(put("locks", 0, ["v", salt, length, candidates])))
            self.assertEqual(plan.locks[0], ("v", salt, length, tuple(candidates)))

    def test_bad_locks(self):
        for salt in [-1, 5, BIG, True, None, "1", 1.0, [1]]:
            self.refuse([salt, 1, [1]])
        for length in [0, -1, 121, BIG, True, None, "1", 1.0, (1,)]:
            self.refuse([0, length, [1]])
        for candidates in [
            [], (), [1, 1], [0, 1, 2, 3, 4, 0], [5], [-1], [1, True], [False], [None], ["1"], [1.0], [[1]], [1, 2, 1], [0, 1, 2, 3, 4, 5],
        ]:
            self.refuse([0, 1, candidates])

    def refuse(self, rest):
        check_raises(self, BadLock, {"slot": "v"}, lambda: build(changed(put("locks", 0, ["v"] + rest))))
        check_raises(self, BadLock, {"slot": "w"}, lambda: build(changed(put("locks", 1, ["w"] + rest))))
        check_raises(self, BadLock, {"slot": "q"}, lambda: build(changed(put("locks", 0, ["q"] + rest))))

    def test_the_first_bad_lock(self):
        told = changed(put("locks", 0, 1, 9), put("locks", 1, 1, 9))
        check_raises(self, BadLock, {"slot": "v"}, lambda: build(told))
        for slot in NO_TEXTS:
            check_raises(self, BadLock, {"slot": slot}, lambda: build(changed(put("locks", 0, [slot, 9, 1, [1]]))))


FORMULAS = [
    ("roads", 0, 1), ("roads", 1, 1), ("promises", 0, 1), ("promises", 0, 2), ("promises", 1, 1), ("promises", 1, 2),
    ("deeds", 0, "when"), ("deeds", 0, "unless"), ("deeds", 1, "when"), ("deeds", 1, "unless"),
]


class Formulas(unittest.TestCase):
    def test_each_place(self):
        deep = "m"
        for _ in range(7):
            deep = (1, (deep,))
        for path in FORMULAS:
            for formula, part in [
                (5, 5), ("", ""), ((2, ("m",)), (2, ("m",))), ([1, ("m",)], [1, ("m",)]), ((1, ["m"]), (1, ["m"])),
                (False, False), ((1, ("m", "M")), "M"), (deep, (1, ("m",))), ((1, ("m",) * 80 + ("n",)), (1, ("m",) * 80 + ("n",))),
                ((1, ("m", "m~")), "m~"),
            ]:
                check_raises(self, BadGate, {"part": part}, lambda: build(changed(put(*path, formula))))

    def test_none(self):
        for path in FORMULAS:
            if path[0] == "promises" and path[2] == 1:
                check_raises(self, BadGate, {"part": None}, lambda: build(changed(put(*path, None))))
            else:
                self.assertIsInstance(build(changed(put(*path, None))), Plan)

    def test_the_first_counts(self):
        for (k, one), (j, two) in itertools.combinations(enumerate(FORMULAS), 2):
            told = changed(put(*two, j), put(*one, (k, ())))
            check_raises(self, BadGate, {"part": (k, ())}, lambda: build(told))


class Starts(unittest.TestCase):
    def test_what_a_start_may_not_have(self):
        for field, values in [
            ("when", ["m", 5, "", (2, ("m", "n")), False]), ("unless", ["m", 5, [], "M"]), ("clears", [["m"], [None], ["q"]]),
            ("hands", [["d"], ["q"], [5]]),
        ]:
            for value in values:
                check_raises(self, BadStart, {"word": "badstart"}, lambda: build(changed(put("start", field, value))))


# One fault for each place of the walk, in its order: the name that is not declared is "u" and a number.
def walk():
    def form(name):
        return e(name)

    changes = []

    def place(change):
        changes.append(change(f"u{len(changes):02}"))

    place(lambda u: put("devices", 0, 1, 0, form(u)))
    place(lambda u: put("devices", 0, 1, 1, [["a", 1], [u + "~", 2]]))
    place(lambda u: put("devices", 0, 2, u))
    place(lambda u: put("devices", 1, 1, [form(u)]))
    place(lambda u: put("devices", 1, 2, u))
    place(lambda u: put("locks", 0, 0, u))
    place(lambda u: put("locks", 1, 0, u))
    place(lambda u: put("standing", 0, 0, 0, form(u)))
    place(lambda u: put("standing", 0, 1, form(u + "~")))
    place(lambda u: put("standing", 1, 0, 1, form(u)))
    place(lambda u: put("standing", 1, 1, form(u)))
    place(lambda u: put("roads", 0, 0, u))
    place(lambda u: put("roads", 0, 1, (1, ("m", u))))
    place(lambda u: put("roads", 1, 0, u))
    place(lambda u: put("roads", 1, 1, u))
    place(lambda u: put("promises", 0, 0, u))
    place(lambda u: put("promises", 0, 1, (1, (u, "d"))))
    place(lambda u: put("promises", 0, 2, u))
    place(lambda u: put("promises", 1, 1, u))
    place(lambda u: put("start", "sets", [u]))
    place(lambda u: put("start", "letters", 0, 0, 0, form(u)))
    place(lambda u: put("start", "letters", 0, 1, form(u)))
    place(lambda u: put("start", "letters", 1, 0, 0, form(u + "~")))
    place(lambda u: put("start", "letters", 1, 1, form(u)))
    place(lambda u: put("start", "tells", 0, form(u)))
    for deed in [0, 1]:
        place(lambda u: put("deeds", deed, "when", (1, (u, "z"))))
        place(lambda u: put("deeds", deed, "unless", u))
        place(lambda u: put("deeds", deed, "sets", [u]))
        place(lambda u: put("deeds", deed, "clears", [u]))
        place(lambda u: put("deeds", deed, "renews", [u]))
        place(lambda u: put("deeds", deed, "letters", 0, 0, 0, form(u)))
        place(lambda u: put("deeds", deed, "letters", 0, 1, form(u + "~")))
        place(lambda u: put("deeds", deed, "tells", [form(u)]))
        place(lambda u: put("deeds", deed, "hands", [u]))
    return changes


WALK = walk()


class Declared(unittest.TestCase):
    def test_each_place_of_the_walk(self):
        for k, change in enumerate(WALK):
            check_raises(self, UnknownName, {"name": f"u{k:02}"}, lambda: build(changed(change)))

    def test_the_first_of_the_walk_counts(self):
        for (k, one), (_, two) in itertools.combinations(enumerate(WALK), 2):
            check_raises(self, UnknownName, {"name": f"u{k:02}"}, lambda: build(changed(two, one)))
        check_raises(self, UnknownName, {"name": "u00"}, lambda: build(changed(*WALK)))

    def test_each_place_asks_for_its_own_kind(self):
        # Here m is a mark, d a device, a a slot and go a deed.
        for change, name in [
            (put("devices", 0, 2, "d"), "d"), (put("devices", 0, 2, "a"), "a"), (put("devices", 0, 1, 0, e("m")), "m"),
            (put("locks", 0, 0, "m"), "m"), (put("roads", 0, 0, "m"), "m"), (put("roads", 0, 1, "s"), "s"),
            (put("roads", 0, 1, "d"), "d"), (put("promises", 0, 0, "d"), "d"), (put("promises", 0, 1, "m"), "m"),
            (put("promises", 0, 1, "s"), "s"), (put("promises", 0, 2, "d"), "d"), (put("deeds", 0, "when", "a"), "a"),
            (put("deeds", 0, "unless", "d"), "d"), (put("deeds", 0, "sets", ["d"]), "d"), (put("deeds", 0, "clears", ["go"]), "go"),
            (put("deeds", 0, "renews", ["m"]), "m"), (put("deeds", 0, "hands", ["m"]), "m"), (put("deeds", 0, "hands", ["a"]), "a"),
            (put("deeds", 0, "tells", [e("d")]), "d"), (put("start", "sets", ["d"]), "d"), (put("standing", 0, 1, e("go")), "go"),
        ]:
            check_raises(self, UnknownName, {"name": name}, lambda: build(changed(change)))

    def test_names_within_a_form_or_formula_go_ascending(self):
        for change, name in [
            (put("standing", 0, 1, [["a", 1], ["t", 1], ["u", 1]]), "t"),
            (put("deeds", 0, "tells", [[["t.1", 1], ["t~", 1]]]), "t.1"),
            (put("deeds", 0, "tells", [[["t~", 1], ["u", 1]]]), "t"),
            (put("deeds", 0, "when", (2, ("z", "m", (1, ("y", "n")), "x"))), "x"),
            (put("promises", 0, 1, (1, ("z", (1, ("q", "d"))))), "q"),
        ]:
            check_raises(self, UnknownName, {"name": name}, lambda: build(changed(change)))

    def test_old_and_dated_names(self):
        for name in ["a~", "m~", "d~", "a#0", "m#1", "d#0", "A", "", "a "]:
            for path in [
                ("deeds", 0, "sets"), ("deeds", 0, "clears"), ("deeds", 0, "renews"), ("deeds", 0, "hands"), ("start", "sets"),
            ]:
                check_raises(self, UnknownName, {"name": name}, lambda: build(changed(put(*path, [name]))))
            for path in [("devices", 0, 2), ("locks", 0, 0), ("roads", 0, 0), ("promises", 0, 0)]:
                check_raises(self, UnknownName, {"name": name}, lambda: build(changed(put(*path, name))))
        for name in ["a#0", "b#12", "A", "", "A~", "~", "a~~", "a#0~", "#"]:
            for path in [("devices", 0, 1, 0), ("standing", 0, 1), ("start", "tells", 0), ("deeds", 0, "letters", 0, 0, 0), ("deeds", 1, "tells", 0)]:
                check_raises(self, UnknownName, {"name": name}, lambda: build(changed(put(*path, e(name)))))

    def test_values_that_are_no_text(self):
        for value in NO_TEXTS:
            for path in [
                ("deeds", 0, "sets"), ("deeds", 0, "clears"), ("deeds", 0, "renews"), ("deeds", 0, "hands"), ("start", "sets"),
                ("deeds", 1, "hands"),
            ]:
                check_raises(self, UnknownName, {"name": value}, lambda: build(changed(put(*path, [value]))))
            for path in [("devices", 0, 2), ("locks", 0, 0), ("roads", 0, 0), ("promises", 0, 0)]:
                if value is not None or path[0] != "devices":
                    check_raises(self, UnknownName, {"name": value}, lambda: build(changed(put(*path, value))))


class MisusedLocks(unittest.TestCase):
    def refuse(self, name, *changes):
        check_raises(self, LockMisused, {"name": name}, lambda: build(changed(*changes)))

    def test_where_the_unit_of_a_lock_may_stand(self):
        for change in [
            put("devices", 0, 1, 0, e("w")), put("devices", 1, 1, [e("w"), e("v"), e("w")]), put("start", "tells", [e("w"), e("v")]),
            put("deeds", 0, "tells", [e("v")]), put("start", "letters", 1, 0, [e("v")]),
            put("deeds", 0, "letters", 0, 0, [e("a"), e("b"), e("w")]), put("deeds", 0, "letters", 0, 0, [e("w"), e("a")]),
            put("deeds", 0, "letters", 0, 0, [e("w"), [["a", 1], ["b", 2]], e("a~")]),
        ]:
            self.assertIsInstance(build(changed(change)), Plan)

    def test_forms_that_are_not_exactly_the_unit(self):
        for form in [e("w", 2), [["a", 1], ["w", 1]], [["w", 1], ["w~", 1]], [["a~", 1], ["w", 4]]]:
            renew = put("deeds", 0, "renews", ["a", "b", "w"])
            for path in [("devices", 0, 1, 0), ("start", "tells", 0), ("start", "letters", 0, 0, 0), ("deeds", 0, "letters", 0, 0, 0),
                         ("deeds", 0, "letters", 0, 1), ("deeds", 0, "tells", 0), ("standing", 0, 0, 0), ("standing", 0, 1)]:
                self.refuse("w", renew, put(*path, form))

    def test_the_unit_of_an_old_name_of_a_lock(self):
        renew = put("deeds", 0, "renews", ["a", "b", "w"])
        for path in [("deeds", 0, "letters", 0, 0, 0), ("deeds", 0, "tells", 0), ("deeds", 1, "tells", 0), ("devices", 0, 1, 0)]:
            self.refuse("w", renew, put(*path, e("w~")))

    def test_standing_letters_and_what_letters_give(self):
        for path in [
            ("standing", 0, 0, 0), ("standing", 1, 0, 1), ("standing", 1, 1), ("start", "letters", 0, 1), ("start", "letters", 1, 1),
            ("deeds", 0, "letters", 1, 1), ("deeds", 1, "letters", 0, 1),
        ]:
            for lock in ["v", "w"]:
                self.refuse(lock, put(*path, e(lock)))

    def test_a_letter_with_two_units_of_locks(self):
        for needs, name in [
            ([e("w"), e("w")], "w"), ([e("w"), e("v")], "v"), ([e("v"), e("w")], "w"), ([e("w"), e("a"), e("v")], "v"),
            ([e("a"), e("v"), e("b"), e("v")], "v"),
        ]:
            for path in [("start", "letters", 0, 0), ("deeds", 0, "letters", 0, 0), ("deeds", 1, "letters", 0, 0)]:
                self.refuse(name, put(*path, needs))

    def test_roads(self):
        self.refuse("w", put("roads", 0, 0, "w"))
        self.refuse("v", put("roads", 1, 0, "v"))

    def test_the_least_lock_of_a_form_is_told(self):
        self.refuse("v", put("deeds", 0, "tells", [[["v", 1], ["w", 1]]]))
        self.refuse("v", put("deeds", 0, "renews", ["a", "b", "v"]), put("deeds", 0, "tells", [[["v~", 1], ["w", 1]]]))
        self.refuse("v", put("standing", 0, 1, [["a", 1], ["v", 1], ["w", 3]]))

    def test_the_first_of_the_walk_counts(self):
        places = [
            ("devices", 0, 1, 0), ("devices", 1, 1), ("standing", 0, 0, 0), ("standing", 0, 1), ("standing", 1, 1), ("roads", 0, 0),
            ("start", "letters", 0, 0, 0), ("start", "letters", 0, 1), ("start", "letters", 1, 0, 0), ("start", "tells"),
            ("deeds", 0, "letters", 0, 0, 1), ("deeds", 0, "letters", 0, 1), ("deeds", 0, "tells"),
            ("deeds", 1, "letters", 0, 1), ("deeds", 1, "tells"),
        ]

        def misuse(path, lock):
            if path[0] == "roads":
                return put(*path, lock)
            if path[-1] == "tells" or path == ("devices", 1, 1):
                return put(*path, [e(lock, 2)])
            return put(*path, e(lock, 2))

        for one, two in itertools.combinations(places, 2):
            self.refuse("v", misuse(two, "w"), misuse(one, "v"))


class MisusedOldNames(unittest.TestCase):
    def refuse(self, name, *changes):
        check_raises(self, OldMisused, {"name": name}, lambda: build(changed(*changes)))

    def test_each_place(self):
        for path in [
            ("devices", 0, 1, 0), ("devices", 0, 1, 1), ("standing", 0, 0, 0), ("standing", 1, 1), ("start", "letters", 1, 0, 0),
            ("start", "letters", 0, 1), ("start", "tells", 0),
        ]:
            for name in ["a~", "s~"]:
                self.refuse(name, put(*path, e(name)))
        for path in [("deeds", 0, "letters", 0, 0, 0), ("deeds", 0, "letters", 0, 1), ("deeds", 0, "tells", 0)]:
            self.refuse("c~", put(*path, e("c~")))
            self.refuse("s~", put(*path, [["a~", 1], ["c", 1], ["s~", 1]]))
        self.refuse("a~", put("deeds", 1, "tells", 0, e("a~")))

    def test_names_within_a_form_go_ascending(self):
        self.refuse("c~", put("deeds", 0, "tells", 0, [["a~", 1], ["c~", 1], ["s~", 1]]))

    def test_the_first_of_the_walk_counts(self):
        places = [
            ("devices", 0, 1, 0), ("standing", 0, 0, 0), ("standing", 0, 1), ("start", "letters", 0, 1), ("start", "letters", 1, 0, 0),
            ("start", "tells", 0), ("deeds", 0, "letters", 0, 0, 0), ("deeds", 0, "letters", 0, 1), ("deeds", 0, "letters", 1, 0, 0),
            ("deeds", 0, "tells", 0), ("deeds", 1, "letters", 0, 0, 0), ("deeds", 1, "tells", 0),
        ]
        for one, two in itertools.combinations(places, 2):
            self.refuse("s~", put(*two, e("c~" if two[:2] != ("deeds", 1) else "b~")), put(*one, e("s~")))

    def test_a_deed_that_renews_a_slot_may_name_its_old_number_everywhere(self):
        build(changed(put("deeds", 1, "letters", 0, [[e("c~"), e("c")], e("c~"), False]), put("deeds", 1, "tells", [e("c~"), e("c")])))


ORDERED = [
    (add("marks", "A"), BadName, {"name": "A"}),
    (put("deeds", 1, "hands", ["f", "f"]), TwiceNamed, {"name": "f"}),
    (many(["marks"], 14, lambda k: f"m{k}"), TooBig, {"what": "marks"}),
    (put("deeds", 1, "letters", 0, 0, []), TooBig, {"what": "needs"}),
    (put("locks", 1, 2, 0), BadLock, {"slot": "w"}),
    (put("deeds", 1, "unless", ()), BadGate, {"part": ()}),
    (put("start", "hands", ["zz"]), BadStart, {}),
    (put("deeds", 1, "tells", [e("zz")]), UnknownName, {"name": "zz"}),
    (put("deeds", 0, "tells", [e("w", 2)]), LockMisused, {"name": "w"}),
    (put("devices", 0, 1, 0, e("a~")), OldMisused, {"name": "a~"}),
]


class Order(unittest.TestCase):
    def test_a_refusal_that_goes_first_is_raised_first(self):
        for one, two in itertools.combinations(ORDERED, 2):
            check_raises(self, one[1], one[2], lambda: build(changed(two[0], one[0])))
        for k in range(len(ORDERED)):
            later = [change for change, _, _ in ORDERED[k:]]
            check_raises(self, ORDERED[k][1], ORDERED[k][2], lambda: build(changed(*later)))

    def test_a_refused_plan_changes_nothing(self):
        for change, error, _ in ORDERED:
            told = changed(change)
            kept = copy.deepcopy(told)
            with self.assertRaises(error):
                build(told)
            self.assertEqual(told, kept)


if __name__ == "__main__":
    unittest.main()
