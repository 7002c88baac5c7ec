"""Points [29], [30] and [11] and the interface of rules.py."""

import random
import unittest

from holdingsshut.rules import close, close_on, fire_log, unmet
from holdingsshut.spaces import Space
from tests.helpers import all_forms, check_bad_primes, closure_plainly, random_form, random_rules, span, sum_of

A, B, C, D, S = [((name, 1),) for name in "abcds"]
NAMES = ["a", "b", "b~", "c#0"]


def cases(seed, many):
    chance = random.Random(seed)
    for _ in range(many):
        p, names = chance.choice([(2, NAMES), (3, NAMES), (5, NAMES[:3])])
        rules = random_rules(chance, p, names, 8)
        forms = [random_form(chance, p, names, 3) for _ in range(chance.choice([0, 0, 1, 2]))]
        yield p, names, forms, rules


def accepted_of(p, forms, rules, log):
    """The forms by which the rank grows, then what the logged rules give."""
    kept = []
    for form in forms:
        if form not in span(p, kept):
            kept.append(form)
    return kept + [rules[at][1] for at in log]


class Closures(unittest.TestCase):
    def test_random_rules(self):
        fired_late = 0
        for p, names, forms, rules in cases(41, 400):
            known, log = closure_plainly(p, forms, rules)
            space = close_on(p, forms, rules)
            self.assertIsInstance(space, Space)
            self.assertEqual(space.p, p)
            self.assertEqual({form for form in all_forms(p, names) if form in space}, known)
            self.assertEqual(space.accepted(), accepted_of(p, forms, rules, log))
            known, log = closure_plainly(p, [], rules)
            space = close(p, rules)
            self.assertEqual({form for form in all_forms(p, names) if form in space}, known)
            self.assertEqual(space.accepted(), [rules[at][1] for at in log])
            self.assertEqual(fire_log(p, rules), log)
            fired_late += log != sorted(log)
        self.assertGreater(fired_late, 10)

    def test_every_form_of_the_closure_has_a_mix_of_what_logged_rules_give(self):
        for p, names, forms, rules in cases(42, 60):
            space = close_on(p, forms, rules)
            accepted = space.accepted()
            for form in all_forms(p, names):
                if form in space:
                    mix = space.mix(form)
                    self.assertEqual(sum_of(p, [(by, accepted[at]) for at, by in mix]), form)

    def test_the_order_of_rules_changes_nothing_of_the_closure(self):
        chance = random.Random(43)
        for p, _, forms, rules in cases(43, 100):
            mixed = chance.sample(rules, len(rules))
            self.assertEqual(list(close_on(p, forms, mixed)), list(close_on(p, forms, rules)))
            self.assertEqual(list(close(p, mixed)), list(close(p, rules)))

    def test_no_rules_and_no_forms(self):
        self.assertEqual(list(close(5, [])), [])
        self.assertEqual((close(5, []).p, fire_log(5, [])), (5, []))
        self.assertEqual(close_on(5, [A, A, B], []).accepted(), [A, B])
        self.assertEqual(list(close_on(5, [], [])), [])

    def test_a_rule_without_needs_and_the_need_zero(self):
        self.assertEqual(close(5, [((), A)]).accepted(), [A])
        self.assertEqual(close(5, [(((),), A)]).accepted(), [A])
        self.assertEqual(close(5, [(((), ()), A), (((), B), C)]).accepted(), [A])

    def test_a_rule_that_gives_zero_fires_but_is_not_logged(self):
        self.assertEqual(fire_log(5, [((), ()), ((), A), ((A,), ())]), [1])
        self.assertEqual(fire_log(5, [((), A), ((), A), ((), sum_of(5, [(3, A)])), ((), B)]), [0, 3])

    def test_knowing_a_sum_does_not_mean_knowing_its_parts(self):
        both = sum_of(5, [(1, A), (1, B)])
        rules = [((), both), ((A,), S), ((both,), C)]
        space = close(5, rules)
        self.assertEqual((S in space, A in space, C in space), (False, False, True))

    def test_a_need_that_is_a_sum_of_known_parts(self):
        both = sum_of(5, [(2, A), (3, B)])
        space = close(5, [((both,), S), ((), A), ((), B)])
        self.assertIn(S, space)

    def test_a_need_that_is_a_multiple_of_a_known_form(self):
        space = close(5, [((), sum_of(5, [(2, A)])), ((sum_of(5, [(4, A)]),), S)])
        self.assertEqual(space.accepted(), [sum_of(5, [(2, A)]), S])
        self.assertIn(A, space)

    def test_rules_that_fire_only_in_a_later_sweep(self):
        chain = [((C,), D), ((B,), C), ((A,), B), ((), A)]
        self.assertEqual(fire_log(5, chain), [3, 2, 1, 0])
        self.assertEqual(fire_log(5, [((B,), C), ((), A), ((A,), B), ((C,), D)]), [1, 2, 0, 3])
        # In one sweep a rule uses what an earlier rule of this sweep gave.
        self.assertEqual(fire_log(5, [((), A), ((A,), B), ((B,), C)]), [0, 1, 2])

    def test_a_rule_is_logged_when_it_fires_not_later(self):
        # The rule 1 fires in the first sweep, when what it gives is known already.
        self.assertEqual(fire_log(5, [((), A), ((), A), ((A,), B)]), [0, 2])
        self.assertEqual(fire_log(5, [((A,), B), ((), A), ((), B)]), [1, 2])

    def test_forms_are_accepted_before_what_rules_give(self):
        space = close_on(5, [B, A, sum_of(5, [(1, A), (2, B)])], [((), A), ((A, B), C), ((), D)])
        self.assertEqual(space.accepted(), [B, A, C, D])

    def test_long_chains(self):
        names = [f"x{k:03}" for k in range(150)]
        rules = [((((one, 1),),), ((two, 1),)) for one, two in zip(names, names[1:])]
        self.assertEqual(fire_log(97, rules[::-1] + [((), ((names[0], 1),))]), [149] + list(range(148, -1, -1)))
        self.assertEqual(close_on(97, [((names[0], 1),)], rules).rank, 150)

    def test_bad_primes(self):
        for call in [
            lambda p: close(p, []), lambda p: close_on(p, [], []), lambda p: fire_log(p, []),
            lambda p: close(p, [((), A)]), lambda p: close_on(p, [A], [((), B)]), lambda p: fire_log(p, [((), A)]),
        ]:
            check_bad_primes(self, call)

    def test_arguments_stay_and_answers_are_new(self):
        forms, rules = [A], [((A,), B), ((B,), C)]
        for wanted in [[0, 1], [0, 1]]:
            log = fire_log(5, rules + [((), A)])
            self.assertEqual(log, [2] + wanted)
            log.clear()
        first = close_on(5, forms, rules)
        first.add(S)
        self.assertNotIn(S, close_on(5, tuple(forms), tuple(rules)))
        self.assertEqual((forms, rules), ([A], [((A,), B), ((B,), C)]))


class Unmet(unittest.TestCase):
    def test_unmet(self):
        space = Space.over(5, [A, B])
        rules = [
            ((A,), A), ((A,), C), ((C,), D), ((), B), ((), D), ((A, B), ()), ((A, C), S), ((), ()), (((),), S), ((B, A), S),
        ]
        self.assertEqual(unmet(space, rules), [1, 4, 8, 9])
        self.assertEqual(unmet(space, tuple(rules)), [1, 4, 8, 9])
        self.assertEqual(list(space), [A, B])
        self.assertEqual(unmet(space, []), [])
        self.assertEqual(unmet(Space(5), [((A,), B)]), [])

    def test_nothing_is_unmet_just_where_the_space_is_closed(self):
        for p, _, forms, rules in cases(44, 150):
            known = span(p, forms)
            wanted = [
                at for at, (needs, gives) in enumerate(rules)
                if all(need in known for need in needs) and gives not in known
            ]
            self.assertEqual(unmet(Space.over(p, forms), rules), wanted)
            self.assertEqual(unmet(close_on(p, forms, rules), rules), [])


if __name__ == "__main__":
    unittest.main()
