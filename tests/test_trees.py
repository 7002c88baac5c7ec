"""Point [26] and the interface of trees.py."""

import random
import unittest

from holdingsshut.errors import BadName, BadTree, Stranger
from holdingsshut.trees import above, check_tree, full_tree, leaves, nodes, tree_letters
from tests.helpers import BAD_NAMES, BAD_VALUES, check_raises, random_tree

TREE = ("a", ("b", ("c", "d"), "e"), "f", ("g", "h"))
NAMES = [f"x{k}" for k in range(40)]
BAD_PREFIXES = [x for x in BAD_NAMES + BAD_VALUES] + ["abcdefghi", "t~", "t#0", "a.3456789"]


def unit(name):
    return ((name, 1),)


def leaves_plainly(part):
    return [part] if isinstance(part, str) else sum((leaves_plainly(inner) for inner in part), [])


def parts_plainly(part, path=()):
    """All parts with their paths, each before what is in it."""
    found = [(path, part)]
    if not isinstance(part, str):
        for k, inner in enumerate(part):
            found += parts_plainly(inner, path + (k,))
    return found


def key_plainly(prefix, path, part):
    if isinstance(part, str):
        return "k." + part
    return prefix if not path else prefix + "." + "".join(map(str, path))


def nodes_plainly(tree, prefix):
    return [
        (key_plainly(prefix, path, part),
         tuple(key_plainly(prefix, path + (k,), inner) for k, inner in enumerate(part)),
         tuple(leaves_plainly(part)))
        for path, part in parts_plainly(tree) if not isinstance(part, str)
    ]


def random_trees(seed, many):
    chance = random.Random(seed)
    return [random_tree(chance, NAMES[:chance.randint(2, 16)], chance.randint(1, 5)) for _ in range(many)]


def wrapped(part, times):
    """The part inside so many tuples of two parts."""
    for k in range(times):
        part = (part, f"w{k}")
    return part


class CheckingTrees(unittest.TestCase):
    def refuse(self, tree, part):
        for call in [check_tree, leaves, nodes, tree_letters, lambda x: nodes(x, prefix="T")]:
            check_raises(self, BadTree, {"part": part}, lambda: call(tree))
        check_raises(self, BadTree, {"part": part}, lambda: above(tree, None, prefix=""))

    def test_trees_are_returned(self):
        for tree in [TREE, ("a", "b"), tuple("abcdef"), ("a" * 8, "z.9"), wrapped("a", 5)] + random_trees(1, 40):
            self.assertEqual(check_tree(tree), tree)

    def test_values_that_are_no_trees(self):
        for tree in BAD_VALUES + ["a", "", ["a", "b"], [("a", "b"), "c"], (), ("a",), tuple("abcdefg"), {"a", "b"}, 10**39]:
            self.refuse(tree, tree)

    def test_bad_parts(self):
        for part in [x for x in BAD_NAMES + BAD_VALUES if x != ("a",)] + [["a", "b"], (), ("a",), tuple("abcdefg"), "abcdefghi"]:
            self.refuse((part, "x"), part)
            self.refuse(("x", part), part)
            self.refuse(("x", ("y", part)), part)
            self.refuse(wrapped(part, 5), part)

    def test_leaves_of_eight_and_nine_signs(self):
        self.assertEqual(check_tree(("abcdefgh", "a.345678")), ("abcdefgh", "a.345678"))
        for leaf in ["abcdefghi", "a.3456789", "a" * 20, "a" * 21]:
            self.refuse(("x", leaf), leaf)

    def test_depth(self):
        self.assertEqual(leaves(wrapped("a", 5)), ["a", "w0", "w1", "w2", "w3", "w4"])
        deep = wrapped("a", 6)
        self.refuse(deep, ("a", "w0"))
        self.refuse(wrapped("a", 8), wrapped("a", 3))
        # A tuple inside five is bad whatever is in it.
        for part in [(), ("a",), (1, 2), tuple("abcdefg")]:
            self.refuse(wrapped(part, 5), part)

    def test_names_that_stood_before(self):
        self.refuse(("a", "a"), "a")
        self.refuse((("a", "b"), ("c", ("b", "a"))), "b")
        self.refuse(("a", ("b", "c"), "c", "b"), "c")

    def test_many_leaves(self):
        sixteen = tuple(tuple(f"l{4 * k + j}" for j in range(4)) for k in range(4))
        self.assertEqual(len(leaves(sixteen)), 16)
        seventeen = sixteen[:3] + (sixteen[3] + ("z",),)
        self.refuse(seventeen, seventeen)
        self.refuse(sixteen + ("z",), sixteen + ("z",))
        most = tuple(tuple(f"l{6 * k + j}" for j in range(6)) for k in range(6))
        self.refuse(most, most)

    def test_first_bad_part(self):
        # A part goes before what is in it, and that before what is to its right.
        self.refuse(("a", ("", 1), 2), "")
        self.refuse(("a", ("b", 1), ("",)), 1)
        self.refuse(((1,), ""), (1,))
        self.refuse(("a", ("b", ("c",), 1), 2), ("c",))
        self.refuse(tuple([1] * 7), tuple([1] * 7))
        self.refuse(("a", "a", 1), 1)
        self.refuse(("a", "a", ("b",)), ("b",))

    def test_repeated_names_go_before_too_many_leaves(self):
        tree = tuple(tuple(f"l{6 * k + j}" for j in range(6)) for k in range(3))
        self.refuse(tree, tree)
        self.refuse(tree[:2] + (tree[2][:5] + ("l0",),), "l0")
        self.refuse(tree[:2] + (tree[2][:5] + ("",),), "")


class Nodes(unittest.TestCase):
    def test_leaves(self):
        self.assertEqual(leaves(TREE), list("abcdefgh"))
        for tree in random_trees(2, 60):
            self.assertEqual(leaves(tree), leaves_plainly(tree))

    def test_nodes_written_out(self):
        self.assertEqual(nodes(TREE), [
            ("t", ("k.a", "t.1", "k.f", "t.3"), tuple("abcdefgh")),
            ("t.1", ("k.b", "t.11", "k.e"), tuple("bcde")),
            ("t.11", ("k.c", "k.d"), ("c", "d")),
            ("t.3", ("k.g", "k.h"), ("g", "h")),
        ])
        self.assertEqual(nodes(("a", ("b", "c")), prefix="x.y")[1], ("x.y.1", ("k.b", "k.c"), ("b", "c")))

    def test_nodes_of_random_trees(self):
        for tree in random_trees(3, 80):
            for prefix in ["t", "abcdefgh", "s"]:
                self.assertEqual(nodes(tree, prefix=prefix), nodes_plainly(tree, prefix))

    def test_keys_of_a_deep_and_wide_tree(self):
        tree = ("a", "b", "c", "d", "e", ("f", ("g", ("h", ("i", "j")))))
        self.assertEqual([key for key, _, _ in nodes(tree)], ["t", "t.5", "t.51", "t.511", "t.5111"])

    def test_above(self):
        self.assertEqual(above(TREE, "d"), ["t", "t.1", "t.11"])
        self.assertEqual(above(TREE, "a", prefix="q"), ["q"])
        for tree in random_trees(4, 40):
            for leaf in leaves(tree):
                wanted = [key for key, _, under in nodes_plainly(tree, "u") if leaf in under]
                self.assertEqual(above(tree, leaf, prefix="u"), wanted)
                self.assertEqual(wanted, sorted(wanted, key=len))

    def test_above_a_stranger(self):
        for leaf in ["z", "k.a", "t", "", "ab", "A"]:
            check_raises(self, Stranger, {"name": leaf}, lambda: above(TREE, leaf))

    def test_letters(self):
        self.assertEqual(tree_letters(("a", ("b", "c"))), [
            ((unit("k.a"),), unit("t")), ((unit("t.1"),), unit("t")),
            ((unit("k.b"),), unit("t.1")), ((unit("k.c"),), unit("t.1")),
        ])
        for tree in random_trees(5, 60):
            wanted = [((unit(x),), unit(key)) for key, inner, _ in nodes_plainly(tree, "v") for x in inner]
            self.assertEqual(tree_letters(tree, prefix="v"), wanted)

    def test_prefixes(self):
        for prefix in BAD_PREFIXES:
            for call in [nodes, tree_letters]:
                check_raises(self, BadName, {"name": prefix}, lambda: call(TREE, prefix=prefix))
            check_raises(self, BadName, {"name": prefix}, lambda: above(TREE, "zz", prefix=prefix))
        for prefix in ["a", "a.", "abcdefgh", "a1.2.3.4"]:
            self.assertEqual(nodes(("a", "b"), prefix=prefix), [(prefix, ("k.a", "k.b"), ("a", "b"))])

    def test_answers_are_new(self):
        for call in [leaves, nodes, tree_letters, lambda tree: above(tree, "d")]:
            first = call(TREE)
            wanted = list(first)
            first.clear()
            self.assertEqual(call(TREE), wanted)


class FullTrees(unittest.TestCase):
    def test_full_trees(self):
        self.assertEqual(full_tree(1, ["a", "b"]), ("a", "b"))
        self.assertEqual(full_tree(2, ("a", "b", "c", "d")), (("a", "b"), ("c", "d")))
        self.assertEqual(full_tree(3, list("abcdefgh")), ((("a", "b"), ("c", "d")), (("e", "f"), ("g", "h"))))
        tree = full_tree(4, NAMES[:16])
        self.assertEqual(leaves(tree), NAMES[:16])
        self.assertEqual({len(path) for path, part in parts_plainly(tree) if isinstance(part, str)}, {4})

    def test_wrong_counts(self):
        for height in [1, 2, 3, 4]:
            for many in [0, 1, 2**height - 1, 2**height + 1, 2**(height + 1), 2**(height - 1)]:
                names = NAMES[:many]
                check_raises(self, BadTree, {"part": tuple(names)}, lambda: full_tree(height, names))
        check_raises(self, BadTree, {"part": ("", "", "")}, lambda: full_tree(2, ["", "", ""]))

    def test_bad_names(self):
        check_raises(self, BadTree, {"part": "B"}, lambda: full_tree(2, ["a", "B", "a", ""]))
        check_raises(self, BadTree, {"part": "c"}, lambda: full_tree(2, ["a", "c", "c", "a"]))
        check_raises(self, BadTree, {"part": "abcdefghi"}, lambda: full_tree(1, ["a", "abcdefghi"]))

    def test_names_stay(self):
        names = ["a", "b", "c", "d"]
        full_tree(2, names)
        self.assertEqual(names, ["a", "b", "c", "d"])


if __name__ == "__main__":
    unittest.main()
