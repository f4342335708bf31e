"""Trees laid out anew from left to right, each node as full as can be (point 43)."""

from cutledger.nodes import MOST_NUMBERS, Inner, Leaf, shortest_between


def full_leaves(rows):
    """The leaves of entries, keys rising, each as full as can be: as few as there can be."""
    leaves = [Leaf([])]
    for row in rows:
        last = leaves[-1]
        last.pairs.append(row)
        if last.size() > MOST_NUMBERS:
            last.pairs.pop()
            leaves.append(Leaf([row]))
    return leaves


def bounds_between(leaves):
    """The bound between each leaf and the next one."""
    return [shortest_between(left.pairs[-1][0], right.pairs[0][0]) for left, right in zip(leaves, leaves[1:])]


def full_inners(all_bounds):
    """The nodes above nodes with these bounds between them, each as full as can be, and the bounds between those.

    A child is told by its place among the nodes below, as it has no page yet.
    """
    inners = [Inner([0], [])]
    between = []
    for place, bound in enumerate(all_bounds, start=1):
        last = inners[-1]
        # A child takes its number, and the bound ahead of it takes its length and its bytes.
        if last.size() + 2 + len(bound) > MOST_NUMBERS:
            inners.append(Inner([place], []))
            between.append(bound)
        else:
            last.children.append(place)
            last.bounds.append(bound)
    return (inners, between)


def levels_of(rows):
    """The nodes of a tree of these entries, level by level from the leaves to the root, which is alone."""
    levels = [full_leaves(rows)]
    bounds = bounds_between(levels[0])
    while len(levels[-1]) > 1:
        inners, bounds = full_inners(bounds)
        levels.append(inners)
    return levels
