"""Point [62] and the interface of desk.py."""

import random
import unittest

from holdingsshut.audit import audit, blames, exposed
from holdingsshut.boards import friends
from holdingsshut.desk import answer
from holdingsshut.errors import TooMany, VaultError
from holdingsshut.forms import show_form
from holdingsshut.formulas import show_formula
from holdingsshut.houses import lock_house, mend_house, refresh_house
from holdingsshut.lots import least_lots, unfit_lots
from holdingsshut.pebbles import least_steps
from holdingsshut.plans import Deed, Plan
from holdingsshut.search import heals, judge, price
from holdingsshut.sheets import show_plan
from holdingsshut.sources import present_part
from tests.helpers import random_formula
from tests.tinyplans import tiny_plan

TWO = (2, ("a", "b"))
REFUSED = ["refused question"]


def e(name):
    return ((name, 1),)


def mend():
    return show_plan(mend_house(2, ["a", "b"], TWO, masks_new=False))


def broken(promises=(), **told):
    """A plan of friends c and d who store k and j."""
    return Plan(
        5, marks=["m"], start=Deed("start", renews=["k", "j", "s"], letters=[((e("k"),), e("s"), True)]),
        devices=[("d", [e("k")], "m"), ("c", [e("j")], None)], promises=promises, deeds=told.get("deeds", ()),
    )


class Answers(unittest.TestCase):
    def ask(self, plan, question):
        return answer(show_plan(plan), [question])

    def test_judge(self):
        self.assertEqual(answer(mend(), ["judge 10"]), ["theft s: take.a take.b"])
        tight = mend_house(5, ["a", "b"], TWO, guard=(1, ("a", "b")))
        self.assertEqual(self.ask(tight, "judge 400"), ["shut 3"])
        self.assertEqual(self.ask(tight, "judge 3"), ["shut 3"])
        self.assertEqual(self.ask(tight, "judge 2"), ["refused toomany"])
        plan = lock_house(5, ["a", "b"], TWO, [("a", 0, 1, (1,)), ("b", 0, 1, (2,))])
        self.assertEqual(self.ask(plan, "judge 1 w.a"), ["shut 1"])
        self.assertEqual(self.ask(plan, "judge 1 w.b w.a w.b"), ["theft s:"])
        self.assertEqual(self.ask(plan, "judge 1 w.b x"), ["refused unknownname"])

    def test_friends(self):
        self.assertEqual(answer(mend(), ["friends 4", "friends 3"]), ["open 4", "refused toomany"])
        plan = broken(deeds=[Deed("x", sets=["m"]), Deed("back", clears=["m"])])
        self.assertEqual(self.ask(plan, "friends 9"), ["cut d: x back"])
        self.assertEqual(self.ask(broken([("s", (2, ("d", "c")), None), ("s", "c", None)]), "friends 9"), ["over s d:"])
        self.assertEqual(self.ask(broken([("s", "c", None)]), "friends 9"), ["short s c:"])
        self.assertEqual(self.ask(broken([("j", (2, ("d", "c")), "m")], deeds=[Deed("set", sets=["m"])]),
            "friends 9"), ["over j c: set"])
        self.assertEqual(self.ask(broken([("j", "d", None)]), "friends 9"), ["short j d:"])
        free = Plan(5, start=Deed("start", renews=["s"], letters=[(((),), e("s"), True)]), devices=[("d", [], None)],
            promises=[("s", "d", None)])
        self.assertEqual(self.ask(free, "friends 9"), ["over s -:"])
        both = Plan(5, start=Deed("start", renews=["s"]), devices=[("d", [], None), ("c", [], None)],
            promises=[("s", (2, ("d", "c")), None)])
        self.assertEqual(self.ask(both, "friends 9"), ["short s c d:"])

    def test_price(self):
        locks = [("a", 0, 4, (1, 2, 3)), ("b", 0, 4, (2, 3)), ("c", 1, 3, (0, 1, 2, 3, 4))]
        self.assertEqual(self.ask(lock_house(5, list("abc"), (2, ("a", "b", "c")), locks), "price 2 200"),
            ["price 30: w.a w.b"])
        self.assertEqual(self.ask(lock_house(5, list("abc"), TWO, locks[1:]), "price 2 200"), ["price none"])
        self.assertEqual(answer(mend(), ["price 120 400"]), ["price 0:"])
        self.assertEqual(self.ask(mend_house(5, ["a", "b"], TWO, guard=(1, ("a", "b"))), "price 1 2"), ["refused toomany"])

    def test_heals(self):
        self.assertEqual(answer(mend(), ["heals mend 9", "heals take.a 9", "heals x 9"]),
            ["survives: take.a mend", "survives: take.a", "refused nodeed"])
        tight = mend_house(5, ["a", "b"], TWO, guard=(1, ("a", "b")))
        self.assertEqual(answer(show_plan(tight), ["heals mend 3", "heals mend 2", "heals start 3"]),
            ["heals 3", "refused toomany", "refused nodeed"])

    def test_audit(self):
        self.assertEqual(answer(mend(), ["audit take.a mend take.b"]), ["0 s shut", "1 s shut", "2 s shut", "3 s stolen"])
        plan = Plan(5, marks=["m"], start=Deed("start", renews=["t", "s"], sets=["m"]),
            roads=[("t", "m"), ("s", None)], deeds=[Deed("go", tells=[e("s"), e("t")])])
        self.assertEqual(self.ask(plan, "audit"), ["0 t free, s shut"])
        self.assertEqual(self.ask(plan, "audit go"), ["0 t free, s shut", "1 t open, s stolen"])
        self.assertEqual(self.ask(broken(deeds=[Deed("x")]), "audit x x"), ["0", "1", "2"])
        self.assertEqual(answer(mend(), ["audit take.a take.a", "audit x take.a"]), ["refused barred", "refused nodeed"])

    def test_blame(self):
        self.assertEqual(answer(mend(), ["blame s take.a mend take.b", "blame s take.a", "blame s"]),
            ["blame 1 3", "blame none", "blame none"])
        plan = Plan(
            5, start=Deed("start", renews=["k", "s", "t"], letters=[(((),), e("t"), True)]), roads=[("s", None), ("t", None)],
            deeds=[Deed("one", tells=[e("s")]), Deed("sum", tells=[(("k", 1), ("s", 1))]), Deed("k", tells=[e("k")])],
        )
        self.assertEqual(self.ask(plan, "blame s one k sum k one"), ["blame 1; 5; 2 3; 3 4"])
        self.assertEqual(self.ask(plan, "blame t one"), ["blame always"])
        self.assertEqual(self.ask(plan, "blame t"), ["blame always"])
        self.assertEqual(self.ask(plan, "blame s one one one one one one one"), ["refused toobig"])
        self.assertEqual(answer(mend(), ["blame k.a", "blame x", "blame k.a x"]),
            ["refused unknownname", "refused unknownname", "refused nodeed"])

    def test_exposed_and_present(self):
        self.assertEqual(answer(mend(), ["exposed", "exposed take.a", "exposed take.a mend", "exposed x"]),
            ["exposed none", "exposed k.a s.1", "exposed s.1", "refused nodeed"])
        self.assertEqual(answer(mend(), ["present", "present take.a take.b", "present take.b take.b"]),
            ["present none", "present k.a, k.b, s, s.1", "refused barred"])
        plan = Plan(5, start=Deed("start", renews=["b", "a", "c"], tells=[(("a", 2), ("b", 1)), e("c")]))
        self.assertEqual(self.ask(plan, "present"), ["present a + 3*b, c"])
        self.assertEqual(self.ask(plan, "exposed"), ["exposed c"])

    def test_steps(self):
        for length, cells in [(1, 1), (6, 2), (120, 120), (120, 1), (77, 3)]:
            self.assertEqual(answer(mend(), [f"steps {length} {cells}"]), [f"steps {least_steps(length, cells)}"])

    def test_lots(self):
        self.assertEqual(answer(mend(), ["lots 2(a, b, c)"]), ["least a b; a c; b c", "unfit a; b; c"])
        self.assertEqual(answer(mend(), ["lots a"]), ["least a", "unfit -"])
        self.assertEqual(answer(mend(), ["lots  2( x,y )  "]), ["least x y", "unfit x; y"])
        for text in [" ", "  ", "M", "2(a)", "a b", "1("]:
            self.assertEqual(answer(mend(), ["lots " + text]), ["refused badformula"])

    def test_questions_of_a_wrong_shape(self):
        for question in [
            "", " ", "x", "Judge 1", "judge", "judge ", "judge  1", " judge 1", "judge 1 ", "judge 1  w", "judge x",
            "judge 0", "judge 401", "judge 01", "judge 1.0", "judge -1", "judge 10000", "judge w 1",
            "friends", "friends ", "friends 0", "friends 401", "friends 1 1", "friends 1 ", "friends x", "price",
            "price 1", "price 1 ", "price 0 1", "price 1 0", "price 121 1", "price 1 401", "price 1 1 1",
            "price 01 1", "price x 1", "price 1 x", "heals", "heals mend", "heals mend ", "heals mend 0",
            "heals mend 401", "heals mend 1 1", "heals  1", "heals 1 mend", "heals x 0", "audit ", "audit  take.a",
            "audit take.a ",
            "audit take.a  mend", "blame", "blame ", "blame  take.a", "blame s ", "exposed ", "exposed  x",
            "present ", "present take.a ", "steps", "steps 1", "steps 1 1 1", "steps 0 1", "steps 1 0", "steps 121 1",
            "steps 1 121", "steps 1 01", "steps 1 1 ", "steps  1 1", "lots", "lots ", "lot a", "steps 1 1\n",
            "judge +1", "judge 1_0",
        ]:
            self.assertEqual(answer(mend(), [question]), REFUSED, question)

    def test_numbers_at_their_bounds(self):
        self.assertEqual(answer(mend(),
            ["judge 400", "friends 400", "price 120 400", "heals take.b 400", "steps 120 120", "steps 1 1", "judge 1"]), [
            "theft s: take.a take.b", "open 4", "price 0:", "survives: take.b", "steps 120", "steps 1", "refused toomany",
        ])

    def test_sheets_that_are_refused(self):
        for text, word in [
            ("", "badsheet"), ("prime 4\nstart", "badprime"), ("prime 5\nstart\nfoo", "badsheet"),
            ("prime 5\nmarks M\nstart", "badname"), ("prime 5\nstart\n renew s\n tell x", "unknownname"),
            ("prime 5\nmarks m m\nstart", "twicenamed"), ("prime 5\nstart\n hand d", "badstart"),
            ("prime 5\nlock w salt 9 length 1 of 1\nstart\n renew w", "badlock"),
            ("prime 5\nstart\n renew s\n tell s~", "oldmisused"),
            ("prime 5\nlock w salt 0 length 1 of 1\nroad w never\nstart\n renew w", "lockmisused"),
            ("prime 5\nmarks a b c d e f g h i j k l m\nstart", "toobig"),
        ]:
            for questions in [[], ["steps 1 1"], ["x", "judge 1", ""], ("lots a",)]:
                self.assertEqual(answer(text, questions), ["refused " + word])

    def test_lines_follow_one_another(self):
        questions = ["lots a", "x", "audit take.a", "judge 9 y", "steps 2 1"]
        self.assertEqual(answer(mend(), questions),
            ["least a", "unfit -", "refused question", "0 s shut", "1 s shut", "refused unknownname", "steps 3"])
        self.assertEqual(answer(mend(), tuple(questions)), answer(mend(), questions))
        self.assertEqual(questions, ["lots a", "x", "audit take.a", "judge 9 y", "steps 2 1"])
        self.assertEqual(answer(mend(), []), [])
        lines = answer(mend(), questions)
        lines.clear()
        self.assertEqual(len(answer(mend(), questions)), 7)

    def lines_plainly(self, plan, words):
        """The lines for a question of the right shape, written from the answers of the functions."""
        course = words[1:]
        try:
            if words[0] == "judge":
                told = judge(plan, guessed=words[2:], limit=int(words[1]))
                return [f"shut {len(told[1])}" if told[0] == "shut" else " ".join([f"theft {told[2]}:", *told[1]])]
            if words[0] == "friends":
                told = friends(plan, limit=int(words[1]))
                if told[0] == "open":
                    return [f"open {len(told[1])}"]
                what = told[2] if told[0] == "cut" else plan.promises[told[2]][0] + " " + (" ".join(told[3]) or "-")
                return [" ".join([f"{told[0]} {what}:", *told[1]])]
            if words[0] == "price":
                told = price(plan, cells=int(words[1]), limit=int(words[2]))
                return ["price none" if told[0] == "none" else " ".join([f"price {told[1]}:", *told[2]])]
            if words[0] == "heals":
                told = heals(plan, words[1], limit=int(words[2]))
                return [f"heals {len(told[1])}" if told[0] == "heals" else " ".join(["survives:", *told[1]])]
            if words[0] == "audit":
                told = audit(plan, course)
                rows = [", ".join(f"{secret} {state}" for at, secret,
                    state in told if at == time) for time in range(len(words))]
                return [f"{time} {row}".strip() for time, row in enumerate(rows)]
            if words[0] == "blame":
                told = blames(plan, words[2:], words[1])
                if told == [()]:
                    return ["blame always"]
                return ["blame " + ("; ".join(" ".join(map(str, blame)) for blame in told) or "none")]
            if words[0] == "exposed":
                return ["exposed " + (" ".join(exposed(plan, course)) or "none")]
            return ["present " + (", ".join(map(show_form, present_part(plan, course))) or "none")]
        except VaultError as caught:
            return ["refused " + caught.word]

    def test_against_the_functions(self):
        chance = random.Random(321)
        seen = set()
        for _ in range(150):
            plan = tiny_plan(chance, chance.choice([0, 0, 1, 2]))
            deeds = [deed.name for deed in plan.deeds] + ["x"] * (chance.random() < 0.1)
            questions, wanted = [], []
            for _ in range(12):
                course = [chance.choice(deeds) for _ in range(chance.randint(0, 3))] if deeds else []
                limit = chance.choice(["400", "200", "2", "1"])
                question = chance.choice([
                    ["judge", limit] + [lock[0] for lock in plan.locks if chance.random() < 0.5], ["friends", limit],
                    ["price", str(chance.randint(1, 120)), limit],
                    ["heals", chance.choice(deeds + ["go"]), limit], ["audit"] + course,
                    ["blame", chance.choice(list(plan.slots))] + course, ["exposed"] + course, ["present"] + course,
                ])
                questions.append(" ".join(question))
                wanted += self.lines_plainly(plan, question)
            lines = answer(show_plan(plan), questions)
            self.assertEqual(lines, wanted)
            seen |= {line.partition(" ")[0].rstrip(":") for line in lines}
            formula = random_formula(chance, list("abcd"), 2)
            told = ["; ".join(" ".join(lot) or "-" for lot in lots(formula)) for lots in [least_lots, unfit_lots]]
            self.assertEqual(answer(show_plan(plan), ["lots " + show_formula(formula)]),
                ["least " + told[0], "unfit " + told[1]])
        self.assertGreaterEqual(seen,
            {"shut", "theft", "open", "cut", "short", "over", "price", "heals", "survives", "blame", "exposed",
                "present", "refused"})

    def test_the_limit_is_passed_on(self):
        plan = refresh_house(5, ["a", "b"], TWO, road=TWO)
        many = len(judge(plan)[1])
        with self.assertRaises(TooMany):
            judge(plan, limit=many - 1)
        self.assertEqual(answer(show_plan(plan), [f"judge {many}", f"judge {many - 1}"]), [f"shut {many}", "refused toomany"])


if __name__ == "__main__":
    unittest.main()
