"""Covers: the fewest keys for some leaves, and renewals without the lost ones."""

from holdingsshut.errors import NobodyLeft, Stranger
from holdingsshut.formulas import lot_of
from holdingsshut.trees import leaf_key, leaves, letters_to, nodes


def clean_cover(tree, kept, *, prefix="t"):
    """The keys of the greatest clean nodes from left to right."""
    found = nodes(tree, prefix=prefix)
    inside = _need_leaves(tree, kept)
    children = {key: inner for key, inner, _ in found}
    return _greatest_clean(found[0][0], children, _leaves_under(found), inside)


def is_clean_cover(tree, kept, keys, *, prefix="t"):
    """True if the list has exactly the keys of the greatest clean nodes, in any order."""
    due = clean_cover(tree, kept, prefix=prefix)
    return len(keys) == len(due) and all(key in keys for key in due)


def mixed_nodes(tree, lost, *, prefix="t"):
    """The keys of the mixed nodes."""
    found = nodes(tree, prefix=prefix)
    gone = _need_some_left(tree, lost)
    return [node[0] for node in _mixed(found, gone)]


def renew_letters(tree, lost, *, prefix="t"):
    """The rules by which children that are not lost open the new keys of the mixed nodes."""
    found = nodes(tree, prefix=prefix)
    gone = _need_some_left(tree, lost)
    under = _leaves_under(found)
    left = [
        (key, [child for child in children if not _has_all(gone, under[child])], names)
        for key, children, names in _mixed(found, gone)
    ]
    return letters_to(left)


def _need_leaves(tree, names):
    """The lot of the names; Stranger for the least one that is no leaf."""
    known = leaves(tree)
    lot = lot_of(names)
    for name in lot:
        if name not in known:
            raise Stranger(name)
    return lot


def _need_some_left(tree, lost):
    """The lot of the lost leaves, which are not all."""
    gone = _need_leaves(tree, lost)
    if len(gone) == len(leaves(tree)):
        raise NobodyLeft()
    return gone


def _leaves_under(found):
    """By key of an inner node or of a leaf: the names of the leaves under it."""
    # The root comes first and has all leaves.
    under = {leaf_key(name): (name,) for name in found[0][2]}
    for key, _, names in found:
        under[key] = names
    return under


def _has_all(lot, names):
    return all(name in lot for name in names)


def _greatest_clean(key, children, under, inside):
    """The keys of the greatest clean nodes from this node on."""
    if _has_all(inside, under[key]):
        return [key]
    return [
        clean for child in children.get(key, ()) for clean in _greatest_clean(child, children, under, inside)
    ]


def _mixed(found, gone):
    """Those inner nodes that have lost leaves under them and others too."""
    return [node for node in found if 0 < sum([name in gone for name in node[2]]) < len(node[2])]
