"""Points [31], [32], [33], [10] and [11] and the interface of papers.py."""

import random
import unittest

from holdingsshut.errors import BadBlind, BadStep, Held, NotHeld
from holdingsshut.papers import blind_paper, check_blind, check_paper, find_paper, is_lean
from holdingsshut.spaces import Space
from tests.helpers import (
    all_forms, check_bad_primes, check_raises, closure_plainly, number_in, random_form, random_rules, span, sum_of, worlds,
)

A, B, C, D, S = [((name, 1),) for name in "abcds"]
NAMES = ["a", "b", "b~", "c#0"]
BIG = 10**39
NO_INTEGERS = [True, False, None, 1.0, 0.0, "0", "1", b"0", (0,), [1], (), {}]


def cases(seed, many):
    chance = random.Random(seed)
    for _ in range(many):
        p, names = chance.choice([(2, NAMES), (3, NAMES), (5, NAMES[:3])])
        yield p, names, random_rules(chance, p, names, 8), random_form(chance, p, names, 3)


def mix_plainly(p, forms, due):
    """The only mix of independent forms that gives what is due, by trying."""
    sums = {(): ()}
    for at, form in enumerate(forms):
        sums = {
            sum_of(p, [(1, old), (by, form)]): mix + ((at, by),) * (by > 0)
            for old, mix in sums.items() for by in range(p)
        }
    return sums.get(due)


def paper_plainly(p, rules, goal):
    """The canonical paper, written out from point [32]."""
    _, log = closure_plainly(p, [], rules)
    given = [rules[at][1] for at in log]
    last = mix_plainly(p, given, goal)
    steps = [tuple(mix_plainly(p, given[:k], need) for need in rules[at][0]) for k, at in enumerate(log)]
    marked = {number for number, _ in last}
    for k in range(len(steps) - 1, -1, -1):
        if k in marked:
            marked |= {number for mix in steps[k] for number, _ in mix}
    new = {k: at for at, k in enumerate(sorted(marked))}

    def anew(mix):
        return tuple((new[number], by) for number, by in mix)

    return tuple((log[k], tuple(anew(mix) for mix in steps[k])) for k in sorted(marked)), anew(last)


def lean_plainly(steps, last):
    """Each step's number stands in a mix of a later step or in `last`."""
    return all(
        any(number == k for number, _ in last)
        or any(number == k for _, mixes in steps[k + 1:] for mix in mixes for number, _ in mix)
        for k in range(len(steps))
    )


class FindingPapers(unittest.TestCase):
    def test_example(self):
        rules = [((A,), (("b", 1), ("s", 2))), ((), B), ((), A)]
        self.assertEqual(find_paper(3, rules, S), (((1, ()), (2, ()), (0, (((1, 1),),))), ((0, 1), (2, 2))))

    def test_canonical_papers(self):
        lengths = set()
        for p, names, rules, _ in cases(51, 250):
            known, _ = closure_plainly(p, [], rules)
            for goal in all_forms(p, names):
                if goal not in known:
                    check_raises(self, NotHeld, {"form": goal}, lambda: find_paper(p, rules, goal))
                    continue
                paper = find_paper(p, rules, goal)
                self.assertEqual(paper, paper_plainly(p, rules, goal))
                self.assertIsInstance(paper, tuple)
                lengths.add(len(paper[0]))
        self.assertGreater(len(lengths), 3)

    def test_canonical_papers_are_right_and_lean(self):
        for p, names, rules, _ in cases(52, 60):
            known, _ = closure_plainly(p, [], rules)
            for goal in known:
                steps, last = find_paper(p, rules, goal)
                self.assertIsNone(check_paper(p, rules, goal, steps, last))
                self.assertIs(is_lean(steps, last), True)

    def test_a_right_paper_computes_the_number_in_each_world(self):
        for p, names, rules, goal in cases(53, 40):
            if goal not in closure_plainly(p, [], rules)[0]:
                continue
            steps, last = find_paper(p, rules, goal)
            for world in worlds(p, names):
                numbers = []
                for at, mixes in steps:
                    for need, mix in zip(rules[at][0], mixes):
                        self.assertEqual(sum(by * numbers[k] for k, by in mix) % p, number_in(p, need, world))
                    numbers.append(number_in(p, rules[at][1], world))
                self.assertEqual(sum(by * numbers[k] for k, by in last) % p, number_in(p, goal, world))

    def test_the_goal_zero(self):
        self.assertEqual(find_paper(5, [], ()), ((), ()))
        self.assertEqual(find_paper(5, [((), A), ((A,), B)], ()), ((), ()))

    def test_a_goal_that_is_not_known(self):
        check_raises(self, NotHeld, {"form": S}, lambda: find_paper(5, [], S))
        check_raises(self, NotHeld, {"form": A}, lambda: find_paper(5, [((), (("a", 1), ("b", 1)))], A))

    def test_idle_steps_are_dropped_and_others_numbered_anew(self):
        rules = [((), D), ((), A), ((D,), C), ((A, ()), B), ((B, A), S)]
        self.assertEqual(find_paper(5, rules, S), (
            ((1, ()), (3, (((0, 1),), ())), (4, (((1, 1),), ((0, 1),)))), ((2, 1),),
        ))
        # A step that only an idle step needs is idle.
        self.assertEqual(find_paper(5, rules, A), (((1, ()),), ((0, 1),)))

    def test_multiples(self):
        rules = [((), sum_of(5, [(2, A)])), ((sum_of(5, [(4, A)]),), sum_of(5, [(3, S)]))]
        self.assertEqual(find_paper(5, rules, S), (((0, ()), (1, (((0, 2),),))), ((1, 2),)))

    def test_bad_primes(self):
        check_bad_primes(self, lambda p: find_paper(p, [((), A)], A))
        check_bad_primes(self, lambda p: find_paper(p, [], S))

    def test_rules_stay(self):
        rules = [((A,), B), ((), A)]
        first = find_paper(5, rules, B)
        self.assertEqual(find_paper(5, tuple(rules), B), first)
        self.assertEqual(rules, [((A,), B), ((), A)])


class CheckingPapers(unittest.TestCase):
    rules = [((), A), ((), B), ((A,), C), ((C, sum_of(7, [(2, A), (3, B)])), S), (((),), D), ((), (("a", 1), ("b", 1)))]
    steps = ((0, ()), (1, ()), (2, (((0, 1),),)), (3, (((2, 1),), ((0, 2), (1, 3)))))
    last = ((0, 1), (3, 5))
    goal = (("a", 1), ("s", 5))

    def refuse(self, at, steps, last=last, goal=goal):
        check_raises(self, BadStep, {"at": at}, lambda: check_paper(7, self.rules, goal, steps, last))

    def accept(self, steps, last, goal):
        self.assertIsNone(check_paper(7, self.rules, goal, steps, last))

    def put(self, at, step):
        return self.steps[:at] + (step,) + self.steps[at + 1:]

    def test_right_papers(self):
        self.accept(self.steps, self.last, self.goal)
        self.accept(list(self.steps), self.last, self.goal)
        self.accept((), (), ())
        self.accept(self.steps, (), ())

    def test_papers_that_are_right_but_not_canonical(self):
        # Idle steps, a rule in several steps, and another way to the same sum.
        self.accept(((0, ()), (0, ()), (5, ()), (1, ())), ((2, 1),), (("a", 1), ("b", 1)))
        self.accept(((0, ()), (0, ())), ((0, 3), (1, 5)), A)
        self.accept(((0, ()), (0, ())), ((0, 3), (1, 4)), ())
        self.accept(((0, ()), (2, (((0, 1),),)), (2, (((0, 1),),))), ((1, 1), (2, 1)), sum_of(7, [(2, C)]))
        self.accept(((0, ()), (0, ()), (2, (((0, 3), (1, 5)),))), ((2, 1),), C)
        self.accept(((4, ((),)),), ((0, 1),), D)
        self.accept(((0, ()), (0, ()), (4, (((0, 1), (1, 6)),))), ((2, 1),), D)

    def test_rule_numbers(self):
        for number in [-1, 6, 7, BIG, -BIG] + NO_INTEGERS:
            self.refuse(0, self.put(0, (number, ())))
            self.refuse(3, self.put(3, (number, self.steps[3][1])))
        check_raises(self, BadStep, {"at": 0}, lambda: check_paper(7, [], (), ((0, ()),), ()))

    def test_counts_of_mixes(self):
        self.refuse(0, self.put(0, (0, ((),))))
        self.refuse(2, self.put(2, (2, ())))
        self.refuse(2, self.put(2, (2, (((0, 1),), ()))))
        self.refuse(3, self.put(3, (3, (((2, 1),),))))
        self.refuse(3, self.put(3, (3, (((2, 1),), ((0, 2), (1, 3)), ()))))

    def test_mixes_that_are_not_strictly_ascending(self):
        self.refuse(3, self.put(3, (3, (((2, 1),), ((1, 3), (0, 2))))))
        self.refuse(3, self.put(3, (3, (((2, 1),), ((0, 1), (0, 1), (1, 3))))))
        self.refuse(4, self.steps, ((3, 5), (0, 1)))
        self.refuse(4, self.steps, ((0, 1), (3, 2), (3, 3)))

    def test_step_numbers_of_mixes(self):
        for number in [2, 3, 4, -1, BIG, -BIG] + NO_INTEGERS:
            self.refuse(2, self.put(2, (2, (((number, 1),),))))
        for number in [4, 5, -1, BIG] + NO_INTEGERS:
            self.refuse(4, self.steps, ((number, 1),), A)
        # Counted from the end, these numbers would lead to the right forms.
        self.refuse(1, ((0, ()), (2, (((-1, 1),),))), ((1, 1),), C)
        self.refuse(2, ((1, ()), (0, ())), ((-1, 1),), A)
        self.refuse(2, ((1, ()), (0, ())), ((-2, 1), (1, 1)), (("a", 1), ("b", 1)))
        # A step does not stand in its own mixes, and later steps do not either.
        twice = ((0, ()), (2, (((1, 1),),)))
        check_raises(self, BadStep, {"at": 1}, lambda: check_paper(7, [((), A), ((), A), ((A,), A)], A, twice, ((1, 1),)))

    def test_coefficients(self):
        for by in [0, 7, 8, -1, -6, BIG] + [x for x in NO_INTEGERS]:
            self.refuse(2, self.put(2, (2, (((0, by),),))))
            self.refuse(3, self.put(3, (3, (((2, 1),), ((0, 2), (1, by))))))
            self.refuse(4, self.steps, ((0, by), (3, 5)))
        # Here the sums are right all the same.
        for by in [0, 7, -7, 14]:
            self.refuse(1, ((0, ()), (4, (((0, by),),))), ((1, 1),), D)
            self.refuse(2, ((0, ()), (1, ())), ((0, 1), (1, by)), A)

    def test_wrong_sums(self):
        for by in [2, 3, 4, 5, 6]:
            self.refuse(2, self.put(2, (2, (((0, by),),))))
            self.refuse(4, self.steps, ((0, by), (3, 5)))
        self.refuse(2, self.put(2, (2, (((1, 1),),))))
        self.refuse(2, self.put(2, (2, ((),))))
        self.refuse(3, self.put(3, (3, (((0, 2), (1, 3)), ((2, 1),)))))
        self.refuse(4, self.steps, ())
        self.refuse(4, self.steps, ((0, 1), (3, 5)), (("a", 1), ("s", 4)))
        self.refuse(0, (), (), A)
        self.refuse(0, (), ((0, 1),), A)

    def test_first_bad_step(self):
        self.refuse(1, self.put(1, (9, ()))[:3] + ((9, ()),), ())
        self.refuse(2, self.put(2, (2, ())), ())
        bad = self.put(3, (3, ()))
        self.refuse(0, ((True, ()),) + bad[1:], ())

    def test_every_change_of_one_integer_of_a_paper_without_choices(self):
        rules = [((), A), ((A,), B), ((A, B), S)]
        steps, last = find_paper(5, rules, S)
        self.assertIsNone(check_paper(5, rules, S, steps, last))
        for at in range(3):
            for number in range(-1, 4):
                if number != steps[at][0]:
                    wrong = steps[:at] + ((number, steps[at][1]),) + steps[at + 1:]
                    check_raises(self, BadStep, {"at": at}, lambda: check_paper(5, rules, S, wrong, last))

    def test_random_papers(self):
        # Right ones by chance, wrong ones mostly: against the rules of point [31] read plainly.
        chance = random.Random(54)
        right = 0
        for p, names, rules, goal in cases(55, 400):
            steps = []
            for at in range(chance.randint(0, 4)):
                if rules:
                    number = chance.randrange(len(rules))
                    mixes = []
                    for need in rules[number][0]:
                        mix = mix_plainly(p, [rules[k][1] for k, _ in steps], need) if chance.random() < 0.9 else ()
                        mixes.append(mix or ())
                    steps.append((number, tuple(mixes)))
            given = [rules[k][1] for k, _ in steps]
            goal = sum_of(p, [(chance.randrange(p), form) for form in given]) if chance.random() < 0.7 else goal
            last = mix_plainly(p, given, goal) or ()
            bad = [
                at for at, (number, mixes) in enumerate(steps)
                if any(sum_of(p, [(by, given[k]) for k, by in mix]) != need for mix, need in zip(mixes, rules[number][0]))
            ]
            if sum_of(p, [(by, given[k]) for k, by in last]) != goal:
                bad.append(len(steps))
            if bad:
                check_raises(self, BadStep, {"at": bad[0]}, lambda: check_paper(p, rules, goal, steps, last))
            else:
                right += 1
                self.assertIsNone(check_paper(p, rules, goal, tuple(steps), last))
            self.assertIs(is_lean(steps, last), lean_plainly(steps, last))
        self.assertGreater(right, 40)

    def test_bad_primes(self):
        check_bad_primes(self, lambda p: check_paper(p, [], A, ((9, ()),), ()))

    def test_arguments_stay(self):
        rules, steps = [((), A), ((A,), B)], [(0, ()), (1, (((0, 1),),))]
        check_paper(5, rules, B, steps, ((1, 1),))
        is_lean(steps, ((1, 1),))
        self.assertEqual((rules, steps), ([((), A), ((A,), B)], [(0, ()), (1, (((0, 1),),))]))


class LeanPapers(unittest.TestCase):
    def test_lean(self):
        self.assertIs(is_lean((), ()), True)
        self.assertIs(is_lean(((0, ()),), ((0, 1),)), True)
        self.assertIs(is_lean(CheckingPapers.steps, CheckingPapers.last), True)
        # A rule may stand in several steps of a lean paper.
        self.assertIs(is_lean(((0, ()), (0, ())), ((0, 1), (1, 1))), True)

    def test_not_lean(self):
        self.assertIs(is_lean(((0, ()),), ()), False)
        self.assertIs(is_lean(((0, ()), (1, ()), (2, (((0, 1),),))), ((2, 1),)), False)
        self.assertIs(is_lean(((0, ()), (1, ())), ((0, 1),)), False)
        self.assertIs(is_lean(((0, ()), (1, ())), ((1, 1),)), False)
        # The last step uses the first one, but nothing uses the last step.
        self.assertIs(is_lean(((0, ()), (1, (((0, 1),),))), ()), False)
        self.assertIs(is_lean(((0, ()), (1, (((0, 1),),))), ((0, 1),)), False)

    def test_a_mix_of_the_step_itself_or_of_one_before_does_not_count(self):
        self.assertIs(is_lean(((0, ()), (1, (((0, 1), (1, 1)),))), ((0, 1),)), False)
        self.assertIs(is_lean(((0, (((1, 1),),)), (1, ())), ((0, 1),)), False)


class BlindPapers(unittest.TestCase):
    def test_papers(self):
        rules = [((), (("a", 1), ("s", 2))), ((A,), S)]
        self.assertEqual(blind_paper(5, rules, S), (((("a", 1), ("s", 2)),), (("a", 3), ("s", 1))))
        self.assertEqual(blind_paper(5, [], S), ((), S))

    def test_random_rules(self):
        held = blind = 0
        for p, names, rules, _ in cases(56, 120):
            known, _ = closure_plainly(p, [], rules)
            for goal in all_forms(p, names):
                if goal in known:
                    held += 1
                    check_raises(self, Held, {"form": goal}, lambda: blind_paper(p, rules, goal))
                    continue
                blind += 1
                basis, shift = blind_paper(p, rules, goal)
                self.assertIsInstance(basis, tuple)
                self.assertEqual(span(p, basis), known)
                self.assertEqual(basis, tuple(Space.over(p, sorted(known))))
                self.assertEqual(shift, Space.over(p, basis).blind(goal))
                self.assertIsNone(check_blind(p, rules, goal, basis, shift))
                check_raises(self, NotHeld, {"form": goal}, lambda: find_paper(p, rules, goal))
        self.assertGreater(min(held, blind), 100)

    def test_the_goal_zero_is_always_held(self):
        check_raises(self, Held, {"form": ()}, lambda: blind_paper(5, [], ()))

    def test_bad_primes(self):
        check_bad_primes(self, lambda p: blind_paper(p, [], ()))
        check_bad_primes(self, lambda p: blind_paper(p, [((), A)], S))
        check_bad_primes(self, lambda p: check_blind(p, [((), A)], A, [], ()))


class CheckingBlindPapers(unittest.TestCase):
    rules = [((), (("a", 1), ("b", 1))), ((A,), S), ((C,), D)]
    ab = (("a", 1), ("b", 1))

    def refuse(self, kind, goal, basis, shift):
        check_raises(self, BadBlind, {"kind": kind}, lambda: check_blind(5, self.rules, goal, basis, shift))

    def accept(self, goal, basis, shift):
        self.assertIsNone(check_blind(5, self.rules, goal, basis, shift))

    def test_other_closed_spaces_and_bases(self):
        self.accept(S, (self.ab,), S)
        self.accept(S, [self.ab], (("a", 1), ("b", 4), ("s", 1)))
        # Dependent forms, forms that are not normal, zero forms, another order.
        self.accept(S, [D, sum_of(5, [(3, self.ab)]), (), self.ab, sum_of(5, [(2, D), (2, self.ab)])], S)
        self.accept(C, [D, self.ab, A, S], C)
        self.accept(S, [C, D, self.ab], S)
        self.accept(sum_of(5, [(3, S)]), [self.ab], (("s", 2),))
        self.accept(S, [self.ab], S + (("x", 4), ("y~", 1)))

    def test_spaces_that_are_not_closed(self):
        self.refuse("basis", S, [], S)
        self.refuse("basis", S, [A], S)
        self.refuse("basis", D, [A, B], D)
        self.refuse("basis", D, [self.ab, C, B], D)
        self.refuse("basis", S, [C, self.ab], S)
        self.refuse("basis", S, [self.ab, C], ())

    def test_wrong_shifts(self):
        self.refuse("shift", S, [self.ab], ())
        self.refuse("shift", S, [self.ab], (("s", 2),))
        self.refuse("shift", S, [self.ab], (("a", 1), ("s", 1)))
        self.refuse("shift", S, [self.ab], (("b", 1), ("s", 1)))
        self.refuse("shift", S, [self.ab], (("a", 1), ("b", 4)))
        self.refuse("shift", S, [self.ab, C, D], (("d", 1), ("s", 1)))
        self.refuse("shift", S, [D, self.ab], (("d", 1), ("s", 1)))
        self.refuse("shift", (), [self.ab], S)
        # The goal lies in the space, so no shift is right.
        for shift in all_forms(5, ["a", "b"]):
            self.refuse("shift", self.ab, [self.ab], shift)

    def test_random_shifts(self):
        chance = random.Random(57)
        accepted = 0
        for p, names, rules, goal in cases(58, 60):
            forms = [random_form(chance, p, names, 3) for _ in range(chance.randint(0, 2))]
            known = span(p, forms)
            open_rule = any(all(x in known for x in needs) and gives not in known for needs, gives in rules)
            for shift in all_forms(p, names):
                moves = dict(shift)
                if open_rule:
                    check_raises(self, BadBlind, {"kind": "basis"}, lambda: check_blind(p, rules, goal, forms, shift))
                elif number_in(p, goal, moves) != 1 or any(number_in(p, form, moves) for form in forms):
                    check_raises(self, BadBlind, {"kind": "shift"}, lambda: check_blind(p, rules, goal, forms, shift))
                else:
                    accepted += 1
                    self.assertIsNone(check_blind(p, rules, goal, forms, shift))
        self.assertGreater(accepted, 50)

    def test_arguments_stay(self):
        basis = [self.ab, D]
        check_blind(5, self.rules, S, basis, S)
        self.assertEqual(basis, [self.ab, D])


if __name__ == "__main__":
    unittest.main()
