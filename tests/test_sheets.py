"""Points [60], [61], [8], [15], [38] and [39], and the interface of sheets.py."""

import random
import unittest

from holdingsshut.errors import BadLock, BadName, BadPrime, BadSheet, BadStart, LockMisused, OldMisused, TooBig, TwiceNamed, UnknownName
from holdingsshut.houses import lease_house, lock_house, mend_house, refresh_house, tree_house
from holdingsshut.plans import Deed, Plan
from holdingsshut.sheets import read_plan, show_plan
from tests.helpers import check_raises
from tests.tinyplans import tiny_plan

TWO = (2, ("a", "b"))
DEED_PARTS = ["when", "unless", "sets", "clears", "renews", "letters", "tells", "hands"]
PLAN_PARTS = ["p", "marks", "devices", "locks", "standing", "roads", "promises"]

SHEET = """prime 7
marks m n
device d out m holds k, j + 3*s, 0
device c out m
device b holds s
device a
lock w salt 0 length 120 of 6 0 3
lock v salt 6 length 1 of 1
standing k & j + k -> s
standing s -> 0
road s by 1(m, n)
road k never
promise s by 2(d, c, 1(b)) when 1(m, n)
promise j by d
start
 set n
 renew k j s w v
 letter k & w -> s
 quiet k -> 2*j
 letter 0 -> 0
 tell 0
 tell 3*k + s
deed go
 when 2(m, n)
 unless m
 set m
 clear n
 renew k w
 quiet k~ & v -> k
 letter j -> j + k + 6*k~
 tell k~
 hand d b
deed still
deed when
 hand a"""


def e(name):
    return ((name, 1),)


def full_plan():
    return Plan(
        7, marks=["m", "n"], devices=[
            ("d", [e("k"), (("j", 1), ("s", 3)), ()], "m"), ("c", [], "m"), ("b", [e("s")], None), ("a", [], None),
        ],
        locks=[("w", 0, 120, (6, 0, 3)), ("v", 6, 1, (1,))],
        standing=[((e("k"), (("j", 1), ("k", 1))), e("s")), ((e("s"),), ())], roads=[("s", (1, ("m", "n"))), ("k", None)],
        promises=[("s", (2, ("d", "c", (1, ("b",)))), (1, ("m", "n"))), ("j", "d", None)],
        start=Deed(
            "start", sets=["n"], renews=["k", "j", "s", "w", "v"], tells=[(), (("k", 3), ("s", 1))],
            letters=[((e("k"), e("w")), e("s"), True), ((e("k"),), (("j", 2),), False), (((),), (), True)],
        ),
        deeds=[
            Deed(
                "go", when=(2, ("m", "n")), unless="m", sets=["m"], clears=["n"], renews=["k", "w"], tells=[e("k~")],
                hands=["d", "b"],
                letters=[((e("k~"), e("v")), e("k"), False), ((e("j"),), (("j", 1), ("k", 1), ("k~", 6)), True)],
            ),
            Deed("still"), Deed("when", hands=["a"]),
        ],
    )


def parts(plan):
    """The attributes of a plan and of its deeds, without the start's name."""
    told = [getattr(plan, name) for name in PLAN_PARTS]
    told.append([getattr(plan.start, name) for name in DEED_PARTS])
    return told + [[deed.name] + [getattr(deed, name) for name in DEED_PARTS] for deed in plan.deeds]


class Showing(unittest.TestCase):
    def test_example(self):
        self.assertEqual(
            show_plan(mend_house(2, ["a"], "a", keys_new=False, masks_new=False)),
            "prime 2\nmarks o.a\ndevice a out o.a holds k.a\nroad s never\npromise s by a\nstart\n renew k.a s\n letter k.a -> s\n"
            "deed take.a\n unless o.a\n set o.a\n tell k.a\ndeed mend\n clear o.a\n hand a",
        )

    def test_each_kind_of_row(self):
        self.assertEqual(show_plan(full_plan()), SHEET)

    def test_the_least_sheet(self):
        self.assertEqual(show_plan(Plan(97, start=Deed("x"))), "prime 97\nstart")

    def test_shown_plans_read_as_they_were(self):
        chance = random.Random(311)
        plans = [tiny_plan(chance, chance.randint(0, 2)) for _ in range(250)] + [
            full_plan(), mend_house(5, ["a", "b"], TWO, road="a", guard="b"), refresh_house(5, ["a", "b"], TWO, quiet=False),
            tree_house(5, ("a", ("b", "c")), kept=[("a", "s")]), lease_house(5, 2, "chains", [(0, 1)]),
            lock_house(5, ["a", "b"], TWO, [("a", 1, 2, (3, 4))]),
            Plan(2, start=Deed("begin")),
            Plan(
                2, marks=["when"], devices=[("when", [], "when"), ("holds", [], None), ("out", [()], "when")],
                start=Deed("x", renews=["by"]), deeds=[Deed("out", when="when")],
                promises=[("by", (1, ("when", "out", "holds")), "when")],
            ),
        ]
        for plan in plans:
            text = show_plan(plan)
            again = read_plan(text)
            self.assertEqual(parts(again), parts(plan))
            self.assertEqual((show_plan(again), again.start.name), (text, "start"))
            self.assertEqual([deed.name for deed in again], [deed.name for deed in plan])


class Reading(unittest.TestCase):
    def test_full(self):
        plan = read_plan(SHEET)
        self.assertIsInstance(plan, Plan)
        self.assertEqual(parts(plan), parts(full_plan()))
        for _, drawer, _ in plan.devices:
            self.assertIsInstance(drawer, tuple)
        for _, _, heard in plan.start.letters:
            self.assertIsInstance(heard, bool)

    def test_liberal_texts(self):
        text = "prime 5\ndevice d holds 7*k + j + 3*k\nroad s by  1( m,m )  \nstart\n renew k j s\n tell 0\ndeed x\n tell 5*k"
        with self.assertRaises(UnknownName):
            read_plan(text)
        plan = read_plan(text.replace("by  1( m,m )  ", "never").replace("prime 5", "prime 5\nmarks m"))
        self.assertEqual((plan.devices, plan.deeds[0].tells), ((("d", (e("j"),), None),), ((),)))
        plan = read_plan("prime 5\nmarks m\ndevice d\nroad s by  1( m,m )  \npromise s by  d  when  m \nstart\n renew s\ndeed x\n when  m\n unless m  ")
        self.assertEqual((plan.roads, plan.promises, plan.deeds[0].when, plan.deeds[0].unless),
            ((("s", (1, ("m", "m"))),), (("s", "d", "m"),), "m", "m"))

    def check(self, text, line, why):
        check_raises(self, BadSheet, {"line": line, "why": why}, lambda: read_plan(text))

    def test_first_words(self):
        for text, line in [
            ("", 1), ("\n", 1), ("start", 1), ("marks m", 1), (" prime 5", 1), ("Prime 5", 1), ("primes 5", 1),
            ("prime", 1), ("deed x", 1), (" set m", 1),
            ("prime 5\n", 2), ("prime 5\n\nstart", 2), ("prime 5\nstart\n", 3), ("prime 5\nstart\n ", 3),
            ("prime 5\nstart\n  set m", 3), ("prime 5\nstart\nset m", 3),
            ("prime 5\nstart\n mark m", 3), ("prime 5\nstart\n marks m", 3), ("prime 5\nstart\n deed x", 3),
            ("prime 5\ndeed x\nstart", 2), ("prime 5\n set m\nstart", 2),
            ("prime 5\n tell 0\nstart", 2), ("prime 5\n quiet a -> b\nstart", 2), ("prime 5\nfoo\nstart", 2),
            ("prime 5\nstart\ndeed x\n set\tm", 4), ("prime 5\nstart\nquiet a -> b", 3),
        ]:
            self.check(text, line, "row")

    def test_no_start(self):
        for text, line in [("prime 5", 2), ("prime 5\nmarks m", 3), ("prime 5\nmarks m\nroad s never\npromise s by d", 5)]:
            self.check(text, line, "row")

    def test_order(self):
        for text, line in [
            ("prime 5\nprime 5\nstart", 2), ("prime 5\nmarks m\nmarks n\nstart", 3),
            ("prime 5\ndevice d\nmarks m\nstart", 3), ("prime 5\nlock w salt 0 length 1 of 1\ndevice d\nstart", 3),
            ("prime 5\nstanding a -> b\nlock w salt 0 length 1 of 1\nstart", 3),
            ("prime 5\nroad s never\nstanding a -> b", 3), ("prime 5\npromise s by d\nroad s never", 3),
            ("prime 5\nstart\npromise s by d", 3), ("prime 5\nstart\nstart", 3), ("prime 5\nstart\ndeed x\nstart", 4),
            ("prime 5\nstart\n set m\nprime 5", 4), ("prime 5\nstart\n set m\nmarks m", 4),
            ("prime 5\nstart\ndeed x\ndevice d", 4),
        ]:
            self.check(text, line, "order")
        rows = ["when m", "unless m", "set m", "clear m", "renew m", "letter a -> b", "tell a", "hand d"]
        for at, one in enumerate(rows):
            for two in rows[at + 1:]:
                self.check(f"prime 5\nstart\ndeed x\n {two}\n {one}", 5, "order")
            if one.split()[0] not in ("letter", "tell"):
                self.check(f"prime 5\nstart\n {one}\n {one}", 4, "order")
        self.check("prime 5\nstart\n tell a\n quiet a -> b", 4, "order")
        self.check("prime 5\nstart\n quiet a -> b\n renew a", 4, "order")
        # Letters and quiet letters are one kind, and each deed begins anew.
        read_plan("prime 5\nmarks m\nstart\n renew a\n quiet a -> a\n letter a -> a\n quiet a -> a\n tell a\n tell a\ndeed x\n set m\ndeed y\n set m")

    def test_shapes(self):
        top = [
            "prime 5 ", "prime 5 5", "prime  5", "marks", "marks ", "marks  m", "marks m  n", "marks m ", "device",
            "device ", "device  d", "device d ", "device d x", "device d out",
            "device d out ", "device d out  m", "device d out m ", "device d out m x", "device d out m holds",
            "device d out m holds ", "device d holds", "device d holds ",
            "device d holds a, ", "device d holds , a", "device d holds a, , b", "device d holds a, b, ",
            "device d  holds a", "device d hold a", "device d out m out n", "device d in m",
            "lock", "lock w", "lock w salt", "lock w salt 1", "lock w salt 1 length", "lock w salt 1 length 1",
            "lock w salt 1 length 1 of", "lock w salt 1 length 1 of ",
            "lock w salt 1 length 1 of 1 ", "lock w salt 1 length 1 of  1", "lock w  salt 1 length 1 of 1",
            "lock w length 1 salt 1 of 1", "lock w salt 1 length 1 in 1", "lock w salts 1 length 1 of 1",
            "standing", "standing ", "standing a", "standing a ->", "standing a -> ", "standing -> a",
            "standing  -> a", "standing a -> b -> c", "standing a &  & b -> c",
            "standing  & a -> b", "standing a->b", "standing a -> b -> ", "road", "road s", "road s ", "road s by",
            "road s by ", "road s never ", "road s never x", "road s ever", "road  s never",
            "road s  never", "road  by m", "road  never", "promise  by d", "promise  by d when m", "promise",
            "promise s", "promise s by", "promise s by ", "promise s by  when m", "promise s by d when ",
            "promise s when m", "promise  s by d", "promise s  by d",
            "start ", "start x",
        ]
        for row in top:
            if row.startswith("prime"):
                self.check(row, 1, "row")
            else:
                self.check("prime 5\n" + row, 2, "row")
        below = [
            " when", " when ", " unless", " unless ", " set", " set ", " set  m", " set m ", " set m  n", " clear",
            " clear ", " renew", " renew ", " renew a ", " letter", " letter ", " letter a",
            " letter -> a", " letter a -> ", " letter a -> b -> c", " quiet", " quiet a", " quiet  -> b",
            " quiet a &  & b -> c", " tell", " tell ", " hand", " hand ", " hand d ", " hand  d",
        ]
        for row in below:
            self.check("prime 5\nstart\n" + row, 3, "row")
            self.check("prime 5\nstart\ndeed x\n" + row, 4, "row")
        for row in ["deed", "deed ", "deed  x", "deed x ", "deed x y"]:
            self.check("prime 5\nstart\n" + row, 3, "row")

    def test_arrows_are_counted_without_overlap(self):
        # The second arrow shares its blank with the first, so there is one, and what is behind it is no form.
        self.check("prime 5\nstanding a -> -> b", 2, "form")
        self.check("prime 5\nstart\n letter a -> ->", 3, "form")

    def test_contents(self):
        for row, why in [
            ("device d holds x y", "form"), ("device d holds  a", "form"), ("device d holds a ", "form"),
            ("device d holds a, B", "form"), ("device d holds a,b", "form"), ("device d holds 0*a", "form"),
            ("device d holds a out m", "form"), ("lock w salt 01 length 1 of 1", "number"),
            ("lock w salt x length 1 of 1", "number"), ("lock w salt 1 length 12345 of 1", "number"),
            ("lock w salt -1 length 1 of 1", "number"), ("lock w salt 1 length 1 of 1 00", "number"),
            ("lock w salt 1 length 1 of 1 1.0", "number"), ("standing a & B -> c", "form"),
            ("standing a & -> b", "form"), ("standing a -> b & c", "form"),
            ("standing a -> B", "form"), ("standing a&b -> c", "form"), ("road s by M", "formula"),
            ("road s by  ", "formula"), ("road s by 2(a)", "formula"), ("road s by never x", "formula"),
            ("promise s by d when", "formula"),
            ("promise s by M", "formula"), ("promise s by d when M", "formula"), ("promise s by  ", "formula"),
            ("promise s by d when  ", "formula"), ("promise s by D when M", "formula"),
            ("promise s by d when m when n", "formula"),
        ]:
            self.check("prime 5\n" + row, 2, why)
        for row, why in [(" when M", "formula"), (" when  ", "formula"), (" unless 1(", "formula"),
            (" letter a -> B", "form"), (" quiet  a -> b", "form"), (" tell A", "form"), (" tell  ", "form"),
            (" tell a & b", "form")]:
            self.check("prime 5\nstart\n" + row, 3, why)
        for word in ["05", "x", "-5", "5.", "12345", "+5", "5a"]:
            self.check("prime " + word, 1, "number")

    def test_two_faults_in_a_row(self):
        for row, why in [
            ("device d holds A, , b", "row"), ("lock w salt x length y of z ", "row"), ("standing A -> ", "row"),
            ("standing A -> b -> c", "row"), ("road s by ", "row"), ("promise s by M when ", "row"),
        ]:
            self.check("prime 5\n" + row, 2, why)
        self.check("prime 5\npromise s by d\nlock w salt x", 3, "order")
        self.check("prime 5\nstart\n tell a\n set ", 4, "order")
        self.check("prime 5\nstart\n tell a\n letter A", 4, "order")
        self.check("prime 5\nmarks m\nmarks ", 3, "order")
        self.check("marks ", 1, "row")
        # A deed in front of the start is no matter of order.
        self.check("prime 5\npromise s by d\n set m\nmarks m", 3, "row")

    def test_faults_in_two_rows(self):
        self.check("prime 5\ndevice d holds A\nfoo", 2, "form")
        self.check("prime 5\nfoo\ndevice d holds A", 2, "row")
        self.check("prime x\nfoo", 1, "number")
        self.check("prime 5\nlock w salt x length 1 of 1\nmarks m", 2, "number")
        self.check("prime 5\nmarks m\nroad s by M\nmarks m", 3, "formula")

    def test_the_prime_is_looked_at_right_after_its_row(self):
        for number in [0, 1, 4, 6, 98, 101, 9999]:
            check_raises(self, BadPrime, {"value": number}, lambda: read_plan(f"prime {number}\nfoo"))
            check_raises(self, BadPrime, {"value": number}, lambda: read_plan(f"prime {number}"))
            self.check(f"prime {number} \nfoo", 1, "row")

    def test_what_the_plan_refuses_comes_last(self):
        for text, error, told in [
            ("prime 5\nmarks M\nstart", BadName, {"name": "M"}),
            ("prime 5\nmarks m m\nstart", TwiceNamed, {"name": "m"}), ("prime 5\nstart\n when m", BadStart, {}),
            ("prime 5\nmarks m\nstart\n clear m", BadStart, {}), ("prime 5\nstart\n hand d", BadStart, {}),
            ("prime 5\nstart\n renew s\n tell x", UnknownName, {"name": "x"}),
            ("prime 5\nlock w salt 5 length 1 of 1\nstart\n renew w", BadLock, {"slot": "w"}),
            ("prime 5\nlock w salt 0 length 121 of 1\nstart\n renew w", BadLock, {"slot": "w"}),
            ("prime 5\nlock w salt 0 length 1 of 1 1\nstart\n renew w", BadLock, {"slot": "w"}),
            ("prime 5\nlock w salt 0 length 1 of 1\nroad w never\nstart\n renew w", LockMisused, {"name": "w"}),
            ("prime 5\nstart\n renew s\n tell s~", OldMisused, {"name": "s~"}),
            ("prime 5\nstart\n renew s\n letter s & s & s & s & s -> s", TooBig, {"what": "needs"}),
            ("prime 5\nstart\ndeed X", BadName, {"name": "X"}), ("prime 5\ndevice D\nstart", BadName, {"name": "D"}),
            ("prime 5\nstart\n renew S", BadName, {"name": "S"}),
        ]:
            check_raises(self, error, told, lambda: read_plan(text))
        self.check("prime 5\nmarks M M\nstart\n tell A", 4, "form")

    def test_answers_are_equal(self):
        self.assertEqual(parts(read_plan(SHEET)), parts(read_plan(SHEET)))
        self.assertEqual(show_plan(full_plan()), show_plan(full_plan()))


if __name__ == "__main__":
    unittest.main()
