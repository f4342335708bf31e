"""Ordered trees in page sets (points 41 to 43)."""

from cutledger.errors import BadEntry, NoRoom
from cutledger.layouts import levels_of
from cutledger.nodes import MOST_NUMBERS, NO_ENTRIES, Inner, Leaf, divided, is_short, read_node


def check_root(pages, root):
    """Raise BadNumber unless a root is the number of a page."""
    pages.get(root)


def check_short(value):
    """Raise BadEntry for a value that can be neither a key nor the value of one."""
    if not is_short(value):
        raise BadEntry()


def node_at(pages, number):
    """The node of a page."""
    return read_node(pages.get(number))


def put_node(pages, number, node):
    """Let a page be that of a node."""
    pages.put(number, node.as_page())


def new_tree(pages):
    """The root of a new tree without keys."""
    root = pages.take()
    pages.put(root, NO_ENTRIES)
    return root


def way_down(pages, root, key):
    """The pairs of number and node from the root to the leaf to which a key belongs."""
    way = [(root, node_at(pages, root))]
    while isinstance(way[-1][1], Inner):
        number = way[-1][1].child_for(key)
        way.append((number, node_at(pages, number)))
    return way


def find(pages, root, key):
    """The value of a key, None if the tree does not hold it."""
    check_root(pages, root)
    check_short(key)
    _, leaf = way_down(pages, root, key)[-1]
    return leaf.value_of(key)


class Growth:
    """What a key with a new value makes of the nodes on its way: nothing is changed before it is all known.

    spare has the pages that may still be taken, taken how many were, nodes the nodes that change, by number.
    """

    def __init__(self, pages):
        self.spare = list(pages.free)
        self.taken = 0
        self.nodes = {}

    def next_page(self):
        """A page for a node more; NoRoom without any."""
        if self.taken == len(self.spare):
            raise NoRoom()
        self.taken += 1
        return self.spare[self.taken - 1]

    def grow(self, way, key):
        """Divide the nodes on a way that have become too great, from the leaf on."""
        for place in range(len(way) - 1, -1, -1):
            number, node = way[place]
            if node.size() <= MOST_NUMBERS:
                self.nodes[number] = node
                return
            first, bound, second = divided(node, self.is_at_end(node, key))
            further = self.next_page()
            self.nodes[further] = second
            if place > 0:
                self.nodes[number] = first
                way[place - 1][1].let_have_behind(number, bound, further)
            else:
                # The root keeps its number, so both of its halves have other ones.
                nearer = self.next_page()
                self.nodes[nearer] = first
                self.nodes[number] = Inner([nearer, further], [bound])

    def is_at_end(self, node, key):
        """Whether nothing in a node is beyond a key."""
        if isinstance(node, Leaf):
            return node.pairs[-1][0] == key
        return node.bounds[-1] <= key

    def done(self, pages):
        """Change the pages."""
        for _ in range(self.taken):
            pages.take()
        for number in self.nodes:
            put_node(pages, number, self.nodes[number])


def put_in(pages, root, key, value):
    """Let a key have a value."""
    check_root(pages, root)
    check_short(key)
    check_short(value)
    way = way_down(pages, root, key)
    way[-1][1].let_have(key, value)
    growth = Growth(pages)
    try:
        growth.grow(way, key)
    except NoRoom:
        # Full nodes may do with the pages that there are where nodes with gaps don't.
        whole = Leaf(entries(pages, root, None, None))
        whole.let_have(key, value)
        lay_out(pages, root, whole.pairs)
        return
    growth.done(pages)


def drop_from(pages, root, key):
    """Let a tree hold a key no more; whether it did."""
    check_root(pages, root)
    check_short(key)
    way = way_down(pages, root, key)
    leaf = way[-1][1]
    if leaf.value_of(key) is None:
        return False
    leaf.let_go(key)
    shrink(pages, way)
    return True


def shrink(pages, way):
    """Write the nodes on a way of which the last one has lost a key, without what is void and with what fits joined."""
    for place in range(len(way) - 1, 0, -1):
        number, node = way[place]
        inner = way[place - 1][1]
        if node.is_void():
            inner.let_go(number)
            pages.leave(number)
        elif not join_beside(pages, inner, number, node):
            put_node(pages, number, node)
            return
    root, node = way[0]
    while isinstance(node, Inner) and len(node.children) == 1:
        child = node.children[0]
        node = node_at(pages, child)
        pages.leave(child)
    put_node(pages, root, node)


def join_beside(pages, inner, number, node):
    """Join a child of an inner node with the one ahead of it or behind it, if they fit one page; whether they do."""
    place = inner.children.index(number)
    if place > 0 and join_two(pages, inner, place - 1, node_at(pages, inner.children[place - 1]), node):
        return True
    if place + 1 < len(inner.children):
        return join_two(pages, inner, place, node, node_at(pages, inner.children[place + 1]))
    return False


def join_two(pages, inner, place, left, right):
    """Join the children of an inner node at a place and behind it, if they fit one page; whether they do."""
    joined = left.joined_with(inner.bounds[place], right)
    if joined.size() > MOST_NUMBERS:
        return False
    put_node(pages, inner.children[place], joined)
    pages.leave(inner.children[place + 1])
    inner.let_go(inner.children[place + 1])
    return True


def entries(pages, root, low, high):
    """The entries whose keys are not below low and below high, keys rising; None is no bound."""
    check_root(pages, root)
    for bound in (low, high):
        if bound is not None:
            check_short(bound)
    found = []
    gather(pages, root, low, high, found)
    return found


def gather(pages, number, low, high, found):
    """Put the entries below a node whose keys are within bounds into a list."""
    node = node_at(pages, number)
    if isinstance(node, Leaf):
        found.extend([pair for pair in node.pairs if is_within(pair[0], low, high)])
        return
    for place, child in enumerate(node.children):
        if node.may_have(place, low, high):
            gather(pages, child, low, high, found)


def is_within(key, low, high):
    """Whether a key is not below low and below high."""
    return (low is None or key >= low) and (high is None or key < high)


def nodes_of(pages, root):
    """The ascending numbers of the pages of a tree."""
    level = [root]
    numbers = []
    while level:
        numbers.extend(level)
        nodes = [node_at(pages, number) for number in level]
        level = [child for node in nodes if isinstance(node, Inner) for child in node.children]
    return tuple(sorted(numbers))


def height(pages, root):
    """How many nodes a way from the root to a leaf has."""
    many = 1
    node = node_at(pages, root)
    while isinstance(node, Inner):
        node = node_at(pages, node.children[0])
        many += 1
    return many


def leave_tree(pages, root):
    """Let all pages of a tree be left."""
    for number in nodes_of(pages, root):
        pages.leave(number)


def packed(pages, root):
    """Build a tree anew, each leaf as full as can be."""
    lay_out(pages, root, entries(pages, root, None, None))


def lay_out(pages, root, rows):
    """Let a tree hold just these entries, laid out anew; NoRoom, nothing being changed, without pages enough."""
    levels = levels_of(rows)
    own = nodes_of(pages, root)
    if sum([len(level) for level in levels]) > len(own) + len(pages.free):
        raise NoRoom()
    for number in own:
        if number != root:
            pages.leave(number)
    below = []
    for level in levels:
        numbers = [root] if len(level) == 1 else [pages.take() for _ in level]
        for number, node in zip(numbers, level):
            if isinstance(node, Inner):
                node.children = [below[place] for place in node.children]
            put_node(pages, number, node)
        below = numbers
