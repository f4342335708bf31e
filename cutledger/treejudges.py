"""Whether trees in a state are right, whatever its pages are (points 41 and 53)."""

from cutledger.nodes import Leaf, is_node, read_node
from cutledger.trees import is_within


def rise(keys):
    """Whether keys rise."""
    return all(key < behind for key, behind in zip(keys, keys[1:]))


class TreeJudge:
    """What is wrong with the trees of a state.

    found has the pairs of word and page, seen the pages of all trees so far; held has the triples of key, value
    and page of the tree at work, and leaf_depth how deep its first leaf is.
    """

    def __init__(self, state):
        self.pages = state
        self.found = []
        self.seen = {}
        self.held = []
        self.leaf_depth = None

    def say(self, word, page):
        """Tell of a fault."""
        self.found.append((word, page))

    def entries_below(self, root, above):
        """The triples of key, value and page of a tree that a page tells of, None if it is not right."""
        many = len(self.found)
        self.held = []
        self.leaf_depth = None
        self.visit(root, above, (None, None), 1)
        return self.held if len(self.found) == many else None

    def visit(self, number, above, bounds, depth):
        """Look at a node that a page tells of, and at those below it."""
        if number >= len(self.pages):
            self.say("away", above)
        elif number in self.seen:
            self.say("twice", number)
        elif not is_node(self.pages[number]):
            self.say("node", number)
        else:
            self.seen[number] = True
            node = read_node(self.pages[number])
            if isinstance(node, Leaf):
                self.visit_leaf(number, node, bounds, depth)
            else:
                self.visit_inner(number, node, bounds, depth)

    def visit_leaf(self, number, leaf, bounds, depth):
        """Look at a leaf."""
        keys = [key for key, _ in leaf.pairs]
        if leaf.is_void() and depth > 1:
            self.say("node", number)
        if not rise(keys) or not all(is_within(key, bounds[0], bounds[1]) for key in keys):
            self.say("order", number)
        if self.leaf_depth is not None and self.leaf_depth != depth:
            self.say("depth", number)
        self.leaf_depth = depth
        self.held.extend([(key, value, number) for key, value in leaf.pairs])

    def visit_inner(self, number, inner, bounds, depth):
        """Look at an inner node, and at the nodes below it."""
        if depth == 1 and inner.many() == 1:
            self.say("node", number)
        if not rise(inner.bounds):
            self.say("order", number)
        lows = [bounds[0], *inner.bounds]
        highs = [*inner.bounds, bounds[1]]
        for child, low, high in zip(inner.children, lows, highs):
            self.visit(child, number, (low, high), depth + 1)
