"""Points [26] and [27] and the interface of covers.py."""

import itertools
import random
import unittest

from holdingsshut.covers import clean_cover, is_clean_cover, mixed_nodes, renew_letters
from holdingsshut.errors import BadName, BadTree, NobodyLeft, Stranger
from tests.helpers import check_raises
from tests.test_trees import BAD_PREFIXES, TREE, key_plainly, leaves_plainly, nodes_plainly, parts_plainly, random_trees, unit


def lots(tree, many):
    """Lots of the leaves: all of few leaves, some of many."""
    names = leaves_plainly(tree)
    if len(names) <= 4:
        return [lot for size in range(len(names) + 1) for lot in itertools.combinations(names, size)]
    chance = random.Random(len(names))
    return [(), tuple(names)] + [tuple(chance.sample(names, chance.randint(1, len(names)))) for _ in range(many)]


def cover_plainly(tree, kept, prefix):
    """Clean nodes, the root or with a parent that is not clean."""
    def is_clean(part):
        return set(leaves_plainly(part)) <= set(kept)

    parts = dict(parts_plainly(tree))
    return [
        key_plainly(prefix, path, part) for path, part in parts_plainly(tree)
        if is_clean(part) and (not path or not is_clean(parts[path[:-1]]))
    ]


def keys_with_leaves(tree, prefix):
    return {key_plainly(prefix, path, part): leaves_plainly(part) for path, part in parts_plainly(tree)}


class CleanCovers(unittest.TestCase):
    def test_covers_written_out(self):
        self.assertEqual(clean_cover(TREE, ["a", "c", "d", "g", "h", "b"]), ["k.a", "k.b", "t.11", "t.3"])
        self.assertEqual(clean_cover(TREE, "hgfedcba"), ["t"])
        self.assertEqual(clean_cover(TREE, "bcde"), ["t.1"])
        self.assertEqual(clean_cover(TREE, []), [])
        self.assertEqual(clean_cover(TREE, ["f"], prefix="q"), ["k.f"])
        self.assertEqual(clean_cover(TREE, "abcdefg", prefix="q"), ["k.a", "q.1", "k.f", "k.g"])

    def test_covers_of_random_trees(self):
        for tree in random_trees(6, 40) + [("a", "b"), ("a", ("b", "c")), (("a", "b"), ("c", "d"))]:
            for kept in lots(tree, 12):
                for prefix in ["t", "x.1"]:
                    found = clean_cover(tree, list(kept), prefix=prefix)
                    self.assertEqual(found, cover_plainly(tree, kept, prefix))
                    under = keys_with_leaves(tree, prefix)
                    self.assertEqual(sorted(sum([under[key] for key in found], [])), sorted(kept))

    def test_no_smaller_set_of_nodes_has_exactly_these_leaves(self):
        for tree in [("a", ("b", "c")), (("a", "b"), ("c", "d")), ("a", ("b", ("c", "d"), "e")), (("a", ("b", "c")), "d")]:
            under = keys_with_leaves(tree, "t")
            for kept in lots(tree, 16):
                found = clean_cover(tree, kept)
                for many in range(len(found)):
                    for keys in itertools.combinations(under, many):
                        self.assertNotEqual({x for key in keys for x in under[key]}, set(kept))

    def test_repeated_leaves_count_once(self):
        self.assertEqual(clean_cover(TREE, ["h", "g", "h", "g", "g"]), ["t.3"])
        self.assertEqual(clean_cover(TREE, ("a", "a")), ["k.a"])

    def test_strangers(self):
        for call in [clean_cover, mixed_nodes, renew_letters, lambda tree, lot: is_clean_cover(tree, lot, [])]:
            for lot, name in [
                (["z"], "z"), (["z", "y", "a"], "y"), (["t"], "t"), (["k.a"], "k.a"), (list("abcdefghz") + [""], ""),
            ]:
                check_raises(self, Stranger, {"name": name}, lambda: call(TREE, lot))

    def test_kinds_go_first(self):
        calls = [
            lambda tree, prefix: clean_cover(tree, ["z"], prefix=prefix),
            lambda tree, prefix: is_clean_cover(tree, ["z"], ["t"], prefix=prefix),
            lambda tree, prefix: mixed_nodes(tree, ["z"], prefix=prefix),
            lambda tree, prefix: renew_letters(tree, ["z"], prefix=prefix),
        ]
        for call in calls:
            check_raises(self, BadTree, {"part": "a"}, lambda: call("a", ""))
            check_raises(self, BadTree, {"part": ["b", "c"]}, lambda: call(("a", ["b", "c"]), "T"))
            check_raises(self, BadTree, {"part": "b"}, lambda: call(("a", "b", "b"), "t"))
            for prefix in BAD_PREFIXES:
                check_raises(self, BadName, {"name": prefix}, lambda: call(TREE, prefix))


class CheckingCovers(unittest.TestCase):
    def test_any_order_is_right(self):
        for keys in itertools.permutations(["k.a", "k.b", "t.11", "t.3"]):
            self.assertIs(is_clean_cover(TREE, "abcdgh", list(keys)), True)
            self.assertIs(is_clean_cover(TREE, "abcdgh", keys), True)
        self.assertIs(is_clean_cover(TREE, [], []), True)
        self.assertIs(is_clean_cover(TREE, list("abcdefgh"), ["q"], prefix="q"), True)

    def test_wrong_lists(self):
        for keys in [
            [], ["t"], ["k.a", "k.b", "t.11"], ["k.a", "k.b", "t.11", "t.3", "t.3"], ["k.a", "k.b", "t.11", "k.g", "k.h"],
            ["k.a", "k.b", "k.c", "k.d", "t.3"], ["k.a", "k.b", "t.11", "t.3", "k.e"], ["k.a", "t.1", "t.3"],
            ["k.a", "k.b", "t.11", "t.2"], ["k.a", "k.a", "t.11", "t.3"], ["k.a", "k.b", "t.11", "t.3", "z"],
            ["k.a", "k.b", "q.11", "q.3"], ["k.a", "k.b", "t.11", "t.3", "k.c"],
        ]:
            self.assertIs(is_clean_cover(TREE, "abcdgh", keys), False)
        self.assertIs(is_clean_cover(TREE, [], ["t"]), False)
        self.assertIs(is_clean_cover(TREE, list("abcdefgh"), []), False)
        self.assertIs(is_clean_cover(TREE, list("abcdefgh"), ["t"], prefix="q"), False)

    def test_all_sets_of_nodes_of_a_small_tree(self):
        tree = ("a", ("b", "c"))
        under = keys_with_leaves(tree, "t")
        for kept in lots(tree, 0):
            right = [set(keys) for many in range(6) for keys in itertools.combinations(under, many)
                     if is_clean_cover(tree, kept, keys)]
            self.assertEqual(right, [set(cover_plainly(tree, kept, "t"))])


class Renewals(unittest.TestCase):
    def test_example(self):
        letters = renew_letters(("a", ("b", "c")), ["b"])
        self.assertEqual([(needs[0][0][0], gives[0][0]) for needs, gives in letters],
                         [("k.a", "t"), ("t.1", "t"), ("k.c", "t.1")])
        self.assertEqual(letters[0], ((unit("k.a"),), unit("t")))

    def test_a_whole_branch_is_lost(self):
        self.assertEqual(mixed_nodes(TREE, ["g", "h"]), ["t"])
        self.assertEqual(renew_letters(TREE, ["h", "g"]),
                         [((unit(x),), unit("t")) for x in ["k.a", "t.1", "k.f"]])
        self.assertEqual(mixed_nodes(TREE, ["c", "d"], prefix="q"), ["q", "q.1"])
        self.assertEqual(renew_letters(TREE, ["c", "d"], prefix="q"), [
            ((unit(x),), unit(key)) for x, key in
            [("k.a", "q"), ("q.1", "q"), ("k.f", "q"), ("q.3", "q"), ("k.b", "q.1"), ("k.e", "q.1")]
        ])

    def test_random_trees(self):
        for tree in random_trees(7, 40) + [("a", "b"), ("a", ("b", "c"))]:
            for lost in lots(tree, 12):
                if len(lost) == len(leaves_plainly(tree)):
                    continue
                under = keys_with_leaves(tree, "v")
                mixed = [node for node in nodes_plainly(tree, "v") if set(node[2]) & set(lost) and set(node[2]) - set(lost)]
                self.assertEqual(mixed_nodes(tree, list(lost), prefix="v"), [key for key, _, _ in mixed])
                wanted = [
                    ((unit(child),), unit(key)) for key, children, _ in mixed for child in children
                    if set(under[child]) - set(lost)
                ]
                self.assertEqual(renew_letters(tree, list(lost), prefix="v"), wanted)

    def test_no_leaf_lost(self):
        self.assertEqual((mixed_nodes(TREE, []), renew_letters(TREE, ())), ([], []))

    def test_all_leaves_lost(self):
        for call in [mixed_nodes, renew_letters]:
            for lost in ["abcdefgh", list("hhgfedcbaa")]:
                check_raises(self, NobodyLeft, {"word": "nobodyleft"}, lambda: call(TREE, list(lost)))
            check_raises(self, Stranger, {"name": "z"}, lambda: call(TREE, list("abcdefghz")))

    def test_a_lost_name_that_stands_twice(self):
        self.assertEqual(mixed_nodes(("a", "b"), ["a", "a"]), ["t"])
        self.assertEqual(renew_letters(("a", "b"), ["a", "a"]), [((unit("k.b"),), unit("t"))])

    def test_no_call_remembers_lost_leaves(self):
        renew_letters(TREE, ["a", "b"])
        self.assertEqual(renew_letters(TREE, []), [])
        self.assertEqual(clean_cover(TREE, "abcdefgh"), ["t"])

    def test_arguments_stay_and_answers_are_new(self):
        lost = ["h", "c", "h"]
        for call in [mixed_nodes, renew_letters, clean_cover]:
            first = call(TREE, lost)
            wanted = list(first)
            first.clear()
            self.assertEqual(call(TREE, lost), wanted)
        self.assertEqual(lost, ["h", "c", "h"])


if __name__ == "__main__":
    unittest.main()
