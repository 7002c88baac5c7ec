"""Leases: keys that open a span of times, by a tree or by two chains."""

from holdingsshut.errors import BadLease
from holdingsshut.forms import need_prefix, unit
from holdingsshut.trees import node_key

TREE = "tree"


def time_slots(height, way, *, prefix="u"):
    """The list of all slots."""
    need_prefix(prefix)
    if way == TREE:
        return [node for depth in range(height + 1) for node in _nodes_at(prefix, depth)]
    times = range(1 << height)
    return [_link(prefix, row, at) for row in ("f", "g", "k") for at in times]


def time_key(height, way, at, *, prefix="u"):
    """The name of the key of the time."""
    need_prefix(prefix)
    _need_lease(height, at, at)
    if way == TREE:
        return _node(prefix, height, at)
    return _link(prefix, "k", at)


def lease_rules(height, way, *, prefix="u"):
    """The list of the rules by which slots open each other."""
    need_prefix(prefix)
    if way == TREE:
        return _tree_rules(height, prefix)
    return _chain_rules(height, prefix)


def lease_keys(height, way, first, last, *, prefix="u"):
    """The list of the slots that the lease holds."""
    need_prefix(prefix)
    _need_lease(height, first, last)
    if way == TREE:
        return _clean_nodes(prefix, height, 0, first, last + 1, 0)
    return [_link(prefix, "f", first), _link(prefix, "g", last)]


def leased_times(height, way, leases):
    """The ascending list of the times that the leases open together."""
    for first, last in leases:
        _need_lease(height, first, last)
    if way != TREE and leases:
        # Any f and any g together give all keys between them.
        leases = [(min([first for first, _ in leases]), max([last for _, last in leases]))]
    return [at for at in range(1 << height) if is_leased(at, leases)]


def is_leased(at, leases):
    """True if the time lies in at least one of the leases."""
    return any(first <= at <= last for first, last in leases)


def _need_lease(height, first, last):
    """Raise BadLease unless the lease lies within the times."""
    if first < 0 or last < first or last >= 1 << height:
        raise BadLease(first, last)


def _node(prefix, depth, at):
    """The node number `at`, from left to right, so many steps below the root."""
    bits = [str((at >> (depth - step - 1)) & 1) for step in range(depth)]
    return node_key(prefix, "".join(bits))


def _nodes_at(prefix, depth):
    return [_node(prefix, depth, at) for at in range(1 << depth)]


def _link(prefix, row, at):
    """The slot of the chain f or g, or the key k, of the time."""
    return f"{prefix}.{row}{at}"


def _rule(needs, gives):
    """The rule over slots by their names."""
    return tuple([unit(need) for need in needs]), unit(gives)


def _tree_rules(height, prefix):
    rules = []
    for depth in range(height):
        children = _nodes_at(prefix, depth + 1)
        for at, node in enumerate(_nodes_at(prefix, depth)):
            rules.append(_rule([node], children[2 * at]))
            rules.append(_rule([node], children[2 * at + 1]))
    return rules


def _chain_rules(height, prefix):
    times = list(range(1 << height))
    rising = [_link(prefix, "f", at) for at in times]
    falling = [_link(prefix, "g", at) for at in times]
    rules = [_rule([rising[at - 1]], rising[at]) for at in times[1:]]
    rules.extend([_rule([falling[at]], falling[at - 1]) for at in reversed(times[1:])])
    rules.extend([_rule([rising[at], falling[at]], _link(prefix, "k", at)) for at in times])
    return rules


def _clean_nodes(prefix, height, depth, first, behind, at):
    """The greatest nodes, from the node number `at` of this depth on, whose times are all leased."""
    low = at << (height - depth)
    high = (at + 1) << (height - depth)
    if behind <= low or high <= first:
        return []
    if first <= low and high <= behind:
        return [_node(prefix, depth, at)]
    left = _clean_nodes(prefix, height, depth + 1, first, behind, 2 * at)
    return left + _clean_nodes(prefix, height, depth + 1, first, behind, 2 * at + 1)
