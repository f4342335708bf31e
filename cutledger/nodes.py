"""Nodes of trees: read from pages, written to pages, divided and joined (point 41)."""

from cutledger.values import are_bytes

MOST_NUMBERS = 96
LONGEST_SHORT = 20
LEAF = 0
INNER = 1
NO_ENTRIES = (0, 0)

# Ahead of the entries or the children of a node stand its kind and how many they are.
AHEAD = 2


class Leaf:
    """A node of entries: pairs of key and value, keys rising."""

    def __init__(self, pairs):
        self.pairs = pairs

    def place_of(self, key):
        """How many entries have lesser keys."""
        return len([pair for pair in self.pairs if pair[0] < key])

    def value_of(self, key):
        """The value of a key, None if the leaf does not hold it."""
        for held, value in self.pairs:
            if held == key:
                return value
        return None

    def let_have(self, key, value):
        """Let a key have a value."""
        place = self.place_of(key)
        end = place if self.value_of(key) is None else place + 1
        self.pairs = [*self.pairs[:place], (key, value), *self.pairs[end:]]

    def let_go(self, key):
        """Hold a key no more."""
        self.pairs = [pair for pair in self.pairs if pair[0] != key]

    def is_void(self):
        """Whether there are no entries."""
        return not self.pairs

    def size(self):
        """How many numbers its page has."""
        return AHEAD + sum([2 + len(key) + len(value) for key, value in self.pairs])

    def as_page(self):
        """Its page."""
        numbers = [LEAF, len(self.pairs)]
        for key, value in self.pairs:
            numbers.extend([len(key), *key, len(value), *value])
        return tuple(numbers)

    def fewest_left(self):
        """With how many entries a first half may do."""
        return 1

    def halves(self, place):
        """The entries ahead of a place, the bound between, and the others."""
        left, right = self.pairs[:place], self.pairs[place:]
        return (Leaf(left), shortest_between(left[-1][0], right[0][0]), Leaf(right))

    def joined_with(self, bound, other):
        """One leaf of the entries of this one and of the next one."""
        return Leaf([*self.pairs, *other.pairs])

    def many(self):
        """How many entries there are."""
        return len(self.pairs)


class Inner:
    """A node of children, which are page numbers; bounds are the keys between them."""

    def __init__(self, children, bounds):
        self.children = children
        self.bounds = bounds

    def child_for(self, key):
        """The child below which a key belongs."""
        return self.children[len([bound for bound in self.bounds if bound <= key])]

    def may_have(self, place, low, high):
        """Whether keys that are not below low and below high may be below the child at a place."""
        if high is not None and place > 0 and self.bounds[place - 1] >= high:
            return False
        return low is None or place == len(self.bounds) or self.bounds[place] > low

    def let_have_behind(self, child, bound, further):
        """Let a further child stand behind a child, with a bound between them."""
        place = self.children.index(child) + 1
        self.children = [*self.children[:place], further, *self.children[place:]]
        self.bounds = [*self.bounds[:place - 1], bound, *self.bounds[place - 1:]]

    def let_go(self, child):
        """Have a child no more; what stands beside it takes its keys."""
        place = self.children.index(child)
        at = max(0, place - 1)
        self.children = [*self.children[:place], *self.children[place + 1:]]
        self.bounds = [*self.bounds[:at], *self.bounds[at + 1:]]

    def is_void(self):
        """Whether there are no children."""
        return not self.children

    def size(self):
        """How many numbers its page has."""
        return AHEAD + len(self.children) + sum([1 + len(bound) for bound in self.bounds])

    def as_page(self):
        """Its page."""
        numbers = [INNER, len(self.children), *self.children]
        for bound in self.bounds:
            numbers.extend([len(bound), *bound])
        return tuple(numbers)

    def fewest_left(self):
        """With how many children a first half may do."""
        return 2

    def halves(self, place):
        """The children ahead of a place, the bound between, and the others."""
        left = Inner(self.children[:place], self.bounds[:place - 1])
        right = Inner(self.children[place:], self.bounds[place:])
        return (left, self.bounds[place - 1], right)

    def joined_with(self, bound, other):
        """One node of the children of this one and of the next one, with the bound between them."""
        return Inner([*self.children, *other.children], [*self.bounds, bound, *other.bounds])

    def many(self):
        """How many children there are."""
        return len(self.children)


def is_short(value):
    """Whether a value is a key, or the value of one."""
    return are_bytes(value, 0, LONGEST_SHORT)


def shortest_between(low, high):
    """The shortest key that is greater than low and not greater than high, which is greater than low."""
    length = 0
    while high[:length] <= low:
        length += 1
    return high[:length]


def read_short(page, at):
    """The key or value whose length stands at a place of a page, and the place behind it."""
    end = at + 1 + page[at]
    return (page[at + 1:end], end)


def read_leaf(page):
    """The leaf of a page."""
    pairs = []
    at = AHEAD
    for _ in range(page[1]):
        key, at = read_short(page, at)
        value, at = read_short(page, at)
        pairs.append((key, value))
    return Leaf(pairs)


def read_inner(page):
    """The inner node of a page."""
    at = AHEAD + page[1]
    children = list(page[AHEAD:at])
    bounds = []
    for _ in range(page[1] - 1):
        bound, at = read_short(page, at)
        bounds.append(bound)
    return Inner(children, bounds)


def is_node(page):
    """Whether a page has the form of a node: its kind, and as many children, keys and values as it tells."""
    if len(page) < AHEAD or page[0] not in (LEAF, INNER) or page[:AHEAD] == (INNER, 0):
        return False
    children, shorts = (page[1], page[1] - 1) if page[0] == INNER else (0, 2 * page[1])
    at = AHEAD + children
    for _ in range(shorts):
        if at >= len(page) or page[at] > LONGEST_SHORT:
            return False
        at += 1 + page[at]
    return at == len(page)


def read_node(page):
    """The node of a page."""
    return read_inner(page) if page[0] == INNER else read_leaf(page)


def divided(node, is_at_end):
    """A node that is too great for a page as two, and the bound between them.

    The first one is as full as can be if the node has grown at its end, as it does when keys come rising;
    otherwise both are much alike.
    """
    fewest = node.fewest_left()
    last = node.many() - fewest
    if is_at_end:
        return node.halves(last)
    best = None
    for place in range(fewest, last + 1):
        first, bound, second = node.halves(place)
        unlike = abs(first.size() - second.size())
        if best is None or unlike < best[0]:
            best = (unlike, first, bound, second)
    return best[1:]
