"""Trees of keys: tuples of parts, down to leaves with names."""

from holdingsshut.errors import BadTree, Stranger
from holdingsshut.forms import first_repeated, is_short_name, need_prefix, unit

LEAST_PARTS = 2
MOST_PARTS = 6
MOST_TUPLES_AROUND = 5
MOST_LEAVES = 16


def check_tree(tree):
    """Return the tree, or raise BadTree; any value may be handed in."""
    if not isinstance(tree, tuple):
        raise BadTree(tree)
    _check_part(tree, 0)
    names = _leaves_of(tree)
    twice = first_repeated(names)
    if twice is not None:
        raise BadTree(twice)
    if len(names) > MOST_LEAVES:
        raise BadTree(tree)
    return tree


def _check_part(part, around):
    """Raise BadTree for the first bad part, inside so many tuples, from here on."""
    if is_short_name(part):
        return
    if around == MOST_TUPLES_AROUND or not isinstance(part, tuple):
        raise BadTree(part)
    if not LEAST_PARTS <= len(part) <= MOST_PARTS:
        raise BadTree(part)
    for inner in part:
        _check_part(inner, around + 1)


def _leaves_of(part):
    if not isinstance(part, tuple):
        return [part]
    return [name for inner in part for name in _leaves_of(inner)]


def leaves(tree):
    """The list of the leaves' names from left to right."""
    check_tree(tree)
    return _leaves_of(tree)


def leaf_key(name):
    """The key of the leaf of this name."""
    return "k." + name


def nodes(tree, *, prefix="t"):
    """The list of (key, keys of the children, leaves under it) of the inner nodes."""
    check_tree(tree)
    need_prefix(prefix)
    found = []
    _add_nodes(tree, prefix, "", found)
    return found


def _add_nodes(part, prefix, path, found):
    """Append the inner nodes from this one on, to which the digits of the path lead."""
    steps = [path + str(at) for at in range(len(part))]
    children = [_key(inner, prefix, step) for inner, step in zip(part, steps)]
    found.append((_key(part, prefix, path), tuple(children), tuple(_leaves_of(part))))
    for inner, step in zip(part, steps):
        if isinstance(inner, tuple):
            _add_nodes(inner, prefix, step, found)


def _key(part, prefix, path):
    """The key of the node to which the digits of the path lead."""
    if not isinstance(part, tuple):
        return leaf_key(part)
    return node_key(prefix, path)


def node_key(prefix, path):
    """The prefix for the root; with a dot and one digit for each step down below it."""
    if path == "":
        return prefix
    return f"{prefix}.{path}"


def above(tree, leaf, *, prefix="t"):
    """The list of the keys of the inner nodes above the leaf, from the root down."""
    found = [key for key, _, names in nodes(tree, prefix=prefix) if leaf in names]
    # Each leaf is under the root at least.
    if not found:
        raise Stranger(leaf)
    return found


def tree_letters(tree, *, prefix="t"):
    """The list of the rules by which each child's key opens its node's key."""
    return letters_to(nodes(tree, prefix=prefix))


def letters_to(found):
    """The rules that lead to nodes, told as `nodes` does, from their children."""
    return [((unit(child),), unit(key)) for key, children, _ in found for child in children]


def full_tree(height, names):
    """The full binary tree over the names from left to right."""
    if len(names) != 1 << height:
        raise BadTree(tuple(names))
    parts = list(names)
    while len(parts) > 1:
        parts = [(parts[at], parts[at + 1]) for at in range(0, len(parts), 2)]
    return check_tree(parts[0])
