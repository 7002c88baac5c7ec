"""Where the interface lists names, they are defined there with the told parameters."""

import importlib
import inspect
import unittest

LISTED = {
    "primes": ["is_prime(n)", "need_prime(p)", "inverse(p, a)", "choose(n, k)"],
    "forms": [
        "is_name(text)", "is_old(text)", "is_dated(text)", "old_name(name)", "dated_name(name, date)",
        "plain_name(name)", "make_form(p, pairs)", "unit(name)", "plus(p, f, g)", "minus(p, f, g)",
        "times(p, f, *, by)", "normal(p, f)", "form_names(f)", "value(p, f, world)", "renamed(p, f, table)",
        "show_form(f)", "read_form(p, text)",
    ],
    "ways": [
        "agreeing(p, names, told)", "value_counts(p, names, told, f)", "one_world(p, names, told)",
        "moved_world(p, world, shift, *, by=1)",
    ],
    "formulas": [
        "gate(k, *places)", "check_formula(formula)", "read_formula(text)", "show_formula(formula)",
        "fits(formula, lot)", "formula_names(formula)",
    ],
    "lots": ["dual(formula)", "least_lots(formula)", "unfit_lots(formula)", "least_of(lots)", "formula_of_lots(lots)"],
    "rows": [
        "formula_rows(p, formula, *, secret='s', prefix='s')", "lots_rows(p, formula, *, secret='s', prefix='s')",
        "rows_of(rows, lot)",
    ],
    "deals": [
        "deal(p, rows, world)", "join(p, rows, told, *, secret='s')", "join_weights(p, rows, lot, *, secret='s')",
        "hidden(p, rows, lot, *, secret='s')", "secret_counts(p, rows, masks, told, *, secret='s')",
    ],
    "renewed": [
        "difference_rows(p, rows, masks)", "dates_space(p, rows, masks, lots, *, heard=())",
        "cut_paper(p, rows, masks, lots, *, heard=(), secret='s')",
        "is_cut_paper(p, rows, masks, lots, shift, *, heard=(), secret='s')",
    ],
    "chains": [
        "check_table(p, table, which)", "chain(p, up, start, length)",
        "stretch(p, up, down, *, password, salt, length)",
    ],
    "pebbles": [
        "least_steps(length, cells)", "rounds(length, cells)", "best_stop(length, cells)", "move_list(length, cells)",
        "check_moves(length, cells, moves)", "run_moves(p, up, down, moves, *, start, length, cells)",
    ],
    "guesses": ["trial_steps(length, cells)", "guess_cost(locks, chosen, *, cells)"],
    "trees": [
        "check_tree(tree)", "leaves(tree)", "nodes(tree, *, prefix='t')", "above(tree, leaf, *, prefix='t')",
        "tree_letters(tree, *, prefix='t')", "full_tree(height, names)",
    ],
    "covers": [
        "clean_cover(tree, kept, *, prefix='t')", "is_clean_cover(tree, kept, keys, *, prefix='t')",
        "mixed_nodes(tree, lost, *, prefix='t')", "renew_letters(tree, lost, *, prefix='t')",
    ],
    "leases": [
        "time_slots(height, way, *, prefix='u')", "time_key(height, way, at, *, prefix='u')",
        "lease_rules(height, way, *, prefix='u')", "lease_keys(height, way, first, last, *, prefix='u')",
        "leased_times(height, way, leases)",
    ],
    "rules": ["close(p, rules)", "close_on(p, forms, rules)", "fire_log(p, rules)", "unmet(space, rules)"],
    "papers": [
        "find_paper(p, rules, goal)", "check_paper(p, rules, goal, steps, last)", "is_lean(steps, last)",
        "blind_paper(p, rules, goal)", "check_blind(p, rules, goal, basis, shift)",
    ],
    "holds": [
        "covers(big, small)", "alike(first, second)", "extended(hold, forms, rules)", "renamed_hold(hold, table)",
    ],
    "fading": ["fade(hold, name)", "fade_all(hold, names)"],
    "kits": [
        "key_slot(device)", "out_mark(device)", "any_of(*names)", "barred_by(names, formula)", "marks_formula(formula)",
        "take_deed(device, drawer, *, unless=None)", "row_letters(rows, *, heard=True)",
        "rule_letters(rules, *, heard=True)",
    ],
    "houses": [
        "mend_house(p, devices, formula, *, road=None, guard=None, keys_new=True, masks_new=True, secret_new=False)",
        "refresh_house(p, devices, formula, *, road=None, quiet=True, strict=True)", "tree_house(p, tree, *, kept=())",
        "lease_house(p, height, way, leases)", "lock_house(p, devices, formula, locks)",
    ],
    "models": [
        "lot_model(devices, formula, *, road=None, guard=None, keys_new=True, masks_new=True, secret_new=False)",
        "refresh_model(devices, formula, *, road=None, quiet=True, strict=True)", "tree_model(tree, *, kept=())",
        "lease_model(height, way, leases)", "lock_model(devices, formula, locks, *, cells)",
    ],
    "courses": [
        "allowed(plan, marks)", "marks_after(plan, marks, deed_name)", "spent_after(plan, marks, spent, deed_name)",
        "replay(plan, course)",
    ],
    "sources": [
        "sources(plan, course, *, guessed=())", "known(plan, course, *, guessed=())",
        "present_part(plan, course, *, guessed=())",
    ],
    "holdings": [
        "first_hold(plan, *, guessed=())", "step_hold(plan, hold, deed_name, *, guessed=())",
        "hold_behind(plan, course, *, guessed=())", "first_holding(plan, *, guessed=())",
        "step_holding(plan, holding, deed_name, *, guessed=())", "holding_covers(plan, big, small)", "stolen(plan, holding)",
        "survivors(plan, holdings, deed_name, *, guessed=())", "healed(plan, course, *, guessed=())",
    ],
    "search": [
        "judge(plan, *, guessed=(), limit=200)", "heals(plan, deed_name, *, guessed=(), limit=200)",
        "lock_sets(plan, *, cells)",
        "price(plan, *, cells, limit=200)",
    ],
    "boards": [
        "first_board(plan)", "board_after(plan, board, deed_name)", "lot_rules(plan, board, lot)",
        "keeping_rules(plan, board, deed_name, device)", "cut_off(plan, marks, board, deed_name)",
        "promise_break(plan, marks, board)", "friends(plan, *, limit=200)",
    ],
    "checks": [
        "check_shut(plan, holdings, *, guessed=())", "check_heals(plan, holdings, deed_name, *, guessed=())",
        "check_theft(plan, course, secret, steps, last, *, guessed=())", "check_price(plan, answer, *, cells)",
    ],
    "boardchecks": ["check_open(plan, pairs)", "check_break(plan, answer)"],
    "sealing": ["seal(tables, keys, body)", "unseal(tables, keys, box)"],
    "thief": ["rob(machine, steps, last, *, guessed=(), cells)", "friend_number(machine, lot, slot)"],
    "audit": [
        "audit(plan, course, *, guessed=())", "tell_times(plan, course)", "blames(plan, course, secret, *, guessed=())",
        "proof(plan, course, f, *, guessed=())", "check_proof(plan, course, f, proof, *, guessed=())",
        "exposed(plan, course, *, guessed=())", "reading_counts(machine, f)",
    ],
    "sheets": ["show_plan(plan)", "read_plan(text)"],
    "desk": ["answer(sheet, questions)"],
}


class Interface(unittest.TestCase):
    def test_functions_are_defined_in_their_files_with_their_parameters(self):
        for module, entries in LISTED.items():
            full = f"holdingsshut.{module}"
            for entry in entries:
                name, told = entry.split("(", 1)
                function = getattr(importlib.import_module(full), name)
                self.assertEqual(function.__module__, full, entry)
                self.assertEqual(str(inspect.signature(function)), "(" + told)

    def test_space(self):
        from holdingsshut.spaces import Space

        self.assertEqual(Space.__module__, "holdingsshut.spaces")
        told = {
            "add": "(self, f)", "reduce": "(self, f)", "blind": "(self, f)", "accepted": "(self)", "mix": "(self, f)",
            "within": "(self, names)", "clone": "(self)",
        }
        for name, parameters in told.items():
            self.assertEqual(str(inspect.signature(vars(Space)[name])), parameters)
        self.assertEqual(str(inspect.signature(Space)), "(p)")
        self.assertEqual(str(inspect.signature(Space.over)), "(p, forms)")
        self.assertIsInstance(vars(Space)["over"], classmethod)
        self.assertIsInstance(vars(Space)["rank"], property)

    def test_trials(self):
        from holdingsshut.guesses import Trials

        self.assertEqual(Trials.__module__, "holdingsshut.guesses")
        self.assertEqual(str(inspect.signature(Trials)), "(p, up, down, *, cells)")
        self.assertEqual(str(inspect.signature(vars(Trials)["__call__"])), "(self, salt, length, candidate)")
        self.assertIsInstance(vars(Trials)["steps"], property)

    def check_class(self, module, name, signature, methods, properties):
        made = getattr(importlib.import_module(f"holdingsshut.{module}"), name)
        self.assertEqual(made.__module__, f"holdingsshut.{module}")
        self.assertEqual(str(inspect.signature(made)), signature)
        for method, parameters in methods.items():
            self.assertEqual(str(inspect.signature(vars(made)[method])), parameters)
        for listed in properties:
            self.assertIsInstance(vars(made)[listed], property)

    def test_hold(self):
        methods = {"reach": "(self, forms)", "__contains__": "(self, f)", "entails": "(self, needs, gives)"}
        self.check_class("holds", "Hold", "(p, forms, rules)", methods, ["hold_names"])

    def test_deed_and_plan(self):
        told = "(name, *, when=None, unless=None, sets=(), clears=(), renews=(), letters=(), tells=(), hands=())"
        self.check_class("plans", "Deed", told, {}, [])
        told = "(p, *, start, marks=(), devices=(), locks=(), standing=(), roads=(), promises=(), deeds=())"
        methods = {"__iter__": "(self)", "deed_named": "(self, deed_name)"}
        self.check_class("plans", "Plan", told, methods, ["slots", "secrets"])

    def test_tables_and_machine(self):
        from holdingsshut.sealing import Tables

        self.check_class("sealing", "Tables", "(p, *, up, down, pads, tags)", {}, [])
        self.assertIsInstance(vars(Tables)["plain"], classmethod)
        self.assertEqual(str(inspect.signature(Tables.plain)), "(p)")
        methods = {"do": "(self, name)", "number_of": "(self, slot)", "dated_world": "(self)", "record": "(self)",
            "posted": "(self)"}
        properties = ["marks_now", "spent_now", "course_done", "draws_left"]
        self.check_class("machine", "Machine", "(plan, tables, draws)", methods, properties)

    def test_the_package_holds_a_docstring_alone(self):
        package = importlib.import_module("holdingsshut")
        with open(package.__file__, encoding="ascii") as file:
            text = file.read()
        self.assertTrue(package.__doc__)
        self.assertEqual(text, f'"""{package.__doc__}"""\n')


if __name__ == "__main__":
    unittest.main()
