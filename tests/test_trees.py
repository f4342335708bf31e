import random
import unittest

from cutledger.errors import NoRoom
from cutledger.pagesets import PageSet
from cutledger.trees import (
    drop_from, entries, find, height, leave_tree, new_tree, nodes_of, packed, put_in,
)
from helpers import NO_TUPLES, bad, told

BAD_SHORTS = NO_TUPLES + [(0,) * 21, (256,), (-1,), (True,), (None,), ("a",), ((),), (1.0,), (0, [1]), (10 ** 30,)]


def blank_pages(many, free=None):
    return PageSet(((),) * many, tuple(range(many)) if free is None else free)


def read_shorts(page, at, many):
    """So many rows with their lengths ahead, and the place behind them."""
    rows = []
    for _ in range(many):
        rows.append(page[at + 1:at + 1 + page[at]])
        at += 1 + page[at]
    return rows, at


def leaf_of(*pairs):
    """The page of a leaf."""
    page = [0, len(pairs)]
    for key, value in pairs:
        page += [len(key), *key, len(value), *value]
    return tuple(page)


def inner_of(children, bounds):
    """The page of an inner node."""
    page = [1, len(children), *children]
    for bound in bounds:
        page += [len(bound), *bound]
    return tuple(page)


class Judge:
    """All nodes of a tree, read page by page as point 41 says."""

    def __init__(self, test, pages, root):
        self.test = test
        self.pages = pages
        self.root = root
        self.numbers, self.depths, self.found, self.leaves = [], set(), [], []
        self.read(root, None, None, 1)
        test.assertEqual(len(self.numbers), len(set(self.numbers)))
        test.assertEqual(len(self.depths), 1)
        test.assertEqual(nodes_of(pages, root), tuple(sorted(self.numbers)))
        test.assertEqual(height(pages, root), max(self.depths))
        test.assertEqual(entries(pages, root, None, None), self.found)

    def read(self, number, low, high, deep):
        page = self.pages.get(number)
        test = self.test
        self.numbers.append(number)
        test.assertLessEqual(len(page), 96)
        if page[0] == 0:
            rows, end = read_shorts(page, 2, 2 * page[1])
            keys = rows[::2]
            self.found += list(zip(keys, rows[1::2]))
            self.depths.add(deep)
            self.leaves.append(list(zip(keys, rows[1::2])))
            test.assertTrue(keys or number == self.root)
            for key in keys:
                test.assertTrue((low is None or key >= low) and (high is None or key < high))
        else:
            test.assertEqual(page[0], 1)
            many = page[1]
            children = page[2:2 + many]
            keys, end = read_shorts(page, 2 + many, many - 1)
            test.assertGreaterEqual(many, 2 if number == self.root else 1)
            for place, child in enumerate(children):
                self.read(child, keys[place - 1] if place else low, keys[place] if place < many - 1 else high, deep + 1)
        test.assertEqual(end, len(page))
        test.assertEqual(keys, sorted(set(keys)))
        test.assertTrue(all(len(key) <= 20 for key in keys))


class Examples(unittest.TestCase):
    def test_examples(self):
        pages = PageSet(((), (), ()), (0, 1, 2))
        root = new_tree(pages)
        put_in(pages, root, (7,), (1, 2))
        self.assertEqual(
            [find(pages, root, (7,)), entries(pages, root, None, (9,)), pages.get(root)],
            [(1, 2), [((7,), (1, 2))], (0, 1, 1, 7, 2, 1, 2)])


class Beside:
    """Trees side by side in one page set, and for each a dict that is told the same."""

    def __init__(self, test, pages, many):
        self.test = test
        self.pages = pages
        self.roots = [new_tree(pages) for _ in range(many)]
        self.dicts = [{} for _ in range(many)]
        self.refused = 0

    def seen(self):
        return (self.pages.whole_state(), self.pages.free)

    def others(self, at):
        """The pages of all trees but one."""
        return [(number, self.pages.get(number)) for other, root in enumerate(self.roots) if other != at
                for number in nodes_of(self.pages, root)]

    def put(self, at, key, value):
        before, others = self.seen(), self.others(at)
        try:
            self.test.assertIsNone(put_in(self.pages, self.roots[at], key, value))
            self.dicts[at][key] = value
        except NoRoom:
            self.refused += 1
            self.test.assertEqual(self.seen(), before)
        self.test.assertEqual(self.others(at), others)

    def drop(self, at, key):
        others = self.others(at)
        before = self.seen()
        answer = drop_from(self.pages, self.roots[at], key)
        self.test.assertIs(answer, key in self.dicts[at])
        if not answer:
            self.test.assertEqual(self.seen(), before)
        self.dicts[at].pop(key, None)
        self.test.assertEqual(self.others(at), others)

    def pack(self, at):
        before, others = self.seen(), self.others(at)
        try:
            self.test.assertIsNone(packed(self.pages, self.roots[at]))
        except NoRoom:
            self.test.assertEqual(self.seen(), before)
        self.test.assertEqual(self.others(at), others)

    def compare(self):
        numbers = []
        for root, held in zip(self.roots, self.dicts):
            judge = Judge(self.test, self.pages, root)
            numbers += judge.numbers
            self.test.assertEqual(judge.found, sorted(held.items()))
        self.test.assertEqual(len(numbers), len(set(numbers)))
        self.test.assertEqual(sorted(numbers + list(self.pages.free)), list(range(len(self.pages.whole_state()))))
        for number in self.pages.free:
            self.test.assertEqual(self.pages.get(number), ())


def random_short(chosen, longest, signs=256):
    return tuple(chosen.randrange(signs) for _ in range(chosen.randint(0, longest)))


class Hundreds(unittest.TestCase):
    def run_rows(self, seed, many, trees, longest, values, signs, calls=300):
        chosen = random.Random(seed)
        beside = Beside(self, blank_pages(many), trees)
        for call in range(calls):
            at = chosen.randrange(trees)
            key = random_short(chosen, longest, signs)
            if beside.dicts[at] and chosen.randrange(5) < 2:
                key = chosen.choice(sorted(beside.dicts[at]))
            if chosen.random() < (0.7 if call < calls * 2 // 3 else 0.2):
                beside.put(at, key, random_short(chosen, values))
            else:
                beside.drop(at, key)
            if chosen.randrange(60) == 0:
                beside.pack(at)
            if call % 6 == 0:
                beside.compare()
            self.assertEqual(find(beside.pages, beside.roots[at], key), beside.dicts[at].get(key))
        beside.compare()
        for at, held in enumerate(beside.dicts):
            for key in sorted(held, key=lambda key: chosen.random()):
                self.assertEqual(find(beside.pages, beside.roots[at], key), held[key])
                beside.drop(at, key)
            self.assertEqual(beside.pages.get(beside.roots[at]), (0, 0))
        beside.compare()
        self.assertEqual(len(beside.pages.free), many - trees)
        return beside.refused

    def test_short_keys_many_pages(self):
        self.assertEqual(self.run_rows(131, 64, 1, 2, 3, 256), 0)
        self.assertEqual(self.run_rows(132, 64, 1, 4, 0, 3), 0)

    def test_long_keys_many_pages(self):
        self.run_rows(133, 64, 1, 20, 20, 256, 400)
        self.run_rows(134, 64, 1, 20, 2, 2, 400)

    def test_few_pages(self):
        refused = [self.run_rows(135 + many, many, 1, 20, 20, 256) for many in (1, 2, 3, 4, 7, 12)]
        self.assertTrue(all(refused))

    def test_trees_side_by_side(self):
        self.assertTrue(self.run_rows(150, 11, 3, 8, 8, 256, 500))
        self.run_rows(151, 64, 5, 20, 5, 4, 500)

    def test_rising_and_falling_keys(self):
        for keys in [range(256), range(255, -1, -1), [at * 77 % 256 for at in range(256)]]:
            beside = Beside(self, blank_pages(64), 1)
            for key in keys:
                beside.put(0, (key,) * 7, (key,))
            beside.compare()
            self.assertEqual(beside.refused, 0)
            for key in keys:
                beside.drop(0, (key,) * 7)
                if key % 5 == 0:
                    beside.compare()
            self.assertEqual(beside.pages.get(beside.roots[0]), (0, 0))

    def test_the_longest_keys_and_values_side_by_side(self):
        beside = Beside(self, blank_pages(64), 1)
        chosen = random.Random(152)
        keys = [(*(7,) * 18, high, low) for high in range(6) for low in range(8)]
        chosen.shuffle(keys)
        for key in keys:
            beside.put(0, key, (9,) * 20)
            beside.compare()
        self.assertEqual(len(beside.dicts[0]), 48)
        for key in keys[::2]:
            beside.put(0, key, ())
        beside.compare()
        for key in keys[::2]:
            beside.put(0, key, (8,) * 20)
            beside.compare()
        chosen.shuffle(keys)
        for key in keys:
            beside.drop(0, key)
            beside.compare()

    def test_void_keys_and_values(self):
        pages = blank_pages(3)
        root = new_tree(pages)
        put_in(pages, root, (), ())
        self.assertEqual((find(pages, root, ()), entries(pages, root, None, None)), ((), [((), ())]))
        put_in(pages, root, (), (1,))
        self.assertEqual((find(pages, root, ()), find(pages, root, (0,))), ((1,), None))
        self.assertEqual(pages.get(root), (0, 1, 0, 1, 1))
        self.assertIs(drop_from(pages, root, ()), True)
        self.assertIs(drop_from(pages, root, ()), False)


class Bounds(unittest.TestCase):
    def test_each_kind_of_bound(self):
        chosen = random.Random(161)
        pages = blank_pages(64)
        root = new_tree(pages)
        held = {}
        for _ in range(150):
            key = random_short(chosen, 5, 4)
            held[key] = random_short(chosen, 20)
            put_in(pages, root, key, held[key])
        self.assertGreater(height(pages, root), 2)
        rows = sorted(held.items())
        bounds = [None, (), (0,), (3,), (4,), (255,) * 20, (0,) * 20, (1, 2), (1, 2, 0)] + chosen.sample(sorted(held), 20)
        for low in bounds:
            for high in bounds:
                right = [row for row in rows if (low is None or row[0] >= low) and (high is None or row[0] < high)]
                self.assertEqual(entries(pages, root, low, high), right)
        self.assertEqual(entries(pages, root, (3,), (1,)), [])

    def test_a_list_of_its_own(self):
        pages = blank_pages(2)
        root = new_tree(pages)
        put_in(pages, root, (1,), (2,))
        entries(pages, root, None, None).append(None)
        self.assertEqual(entries(pages, root, None, None), [((1,), (2,))])


class MadeByHand(unittest.TestCase):
    """Right trees that the package would not make itself."""

    def compare(self, pages, root, held):
        judge = Judge(self, pages, root)
        self.assertEqual(judge.found, sorted(held.items()))

    def lone_children(self):
        """A root of two children, each of which has one child, and bounds that are no keys."""
        state = (
            inner_of((1, 2), [(5, 5)]), inner_of((3,), []), inner_of((4,), []), leaf_of(((1,), (1,)), ((5,), ())),
            leaf_of(((7,), (2,))), (9,), ())
        return PageSet(state, (6,)), {(1,): (1,), (5,): (), (7,): (2,)}

    def test_lone_children(self):
        pages, held = self.lone_children()
        self.compare(pages, 0, held)
        self.assertEqual((height(pages, 0), nodes_of(pages, 0)), (3, (0, 1, 2, 3, 4)))
        self.assertEqual([find(pages, 0, (key,)) for key in (0, 1, 5, 6, 7)], [None, (1,), (), None, (2,)])
        for key in [(5, 4), (5, 5), (6,), (8,)]:
            pages, held = self.lone_children()
            put_in(pages, 0, key, (3,))
            self.compare(pages, 0, {**held, key: (3,)})

    def test_a_leaf_that_loses_its_last_key(self):
        pages, held = self.lone_children()
        self.assertIs(drop_from(pages, 0, (7,)), True)
        del held[(7,)]
        self.compare(pages, 0, held)
        self.assertEqual(pages.get(5), (9,))
        for key in [(1,), (5,)]:
            drop_from(pages, 0, key)
            del held[key]
            self.compare(pages, 0, held)
        self.assertEqual((pages.free, pages.get(0)), ((1, 2, 3, 4, 6), (0, 0)))

    def test_the_first_leaf_goes(self):
        pages, held = self.lone_children()
        for key in [(1,), (5,)]:
            drop_from(pages, 0, key)
            del held[key]
            self.compare(pages, 0, held)

    def test_full_nodes(self):
        # 31 leaves below one root, by bounds of one byte each: packed anew, the bounds between leaves are long ones.
        keys = [(0,) * 20]
        for high in range(1, 31):
            keys += [(high, *(0,) * 19), (high, *(0,) * 18, 1)]
        leaves = [keys[:1]] + [keys[at:at + 2] for at in range(1, 61, 2)]
        state = [inner_of(range(1, 32), [(high,) for high in range(1, 31)])]
        state += [leaf_of(*[(key, (9,) * 20) for key in leaf]) for leaf in leaves]
        for spare in (0, 1, 8, 9, 12):
            pages = PageSet((*state, *((),) * spare), tuple(range(32, 32 + spare)))
            held = {key: (9,) * 20 for key in keys}
            self.compare(pages, 0, held)
            before = (pages.whole_state(), pages.free)
            if spare < 9:
                self.assertEqual(told(packed, pages, 0), bad("NoRoom"))
                self.assertEqual((pages.whole_state(), pages.free), before)
            else:
                self.assertIsNone(packed(pages, 0))
                self.compare(pages, 0, held)
                self.assertEqual(len(nodes_of(pages, 0)), 41)
        pages = PageSet(tuple(state), ())
        before = (pages.whole_state(), pages.free)
        for key in [(3, 0, 1), (30, 1)]:
            self.assertEqual(told(put_in, pages, 0, key, (1,) * 20), bad("NoRoom"))
            self.assertEqual((pages.whole_state(), pages.free), before)
        self.assertIsNone(put_in(pages, 0, (0, 1), (1,) * 20))
        self.compare(pages, 0, {**held, (0, 1): (1,) * 20})

    def test_full_nodes_where_nodes_have_gaps(self):
        # A leaf of two entries and one of one: a further entry does not fit the first one, but all four fit two leaves.
        rows = [((at, *(0,) * 19), (9,) * 20) for at in (10, 20, 30)]
        state = (inner_of((1, 2), [(30,)]), leaf_of(*rows[:2]), leaf_of(rows[2]))
        pages = PageSet(state, ())
        put_in(pages, 0, (5, *(0,) * 19), (9,) * 20)
        self.compare(pages, 0, dict([*rows, ((5, *(0,) * 19), (9,) * 20)]))
        before = (pages.whole_state(), pages.free)
        self.assertEqual(told(put_in, pages, 0, (6, *(0,) * 19), (9,) * 20), bad("NoRoom"))
        self.assertEqual((pages.whole_state(), pages.free), before)


class Rooms(unittest.TestCase):
    def test_no_page_for_a_tree(self):
        pages = PageSet(((1,), (2,)), ())
        self.assertEqual(told(new_tree, pages), bad("NoRoom"))
        self.assertEqual((pages.whole_state(), pages.free), (((1,), (2,)), ()))

    def test_new_trees(self):
        pages = PageSet(((1,), (2,), (3,)), (1, 2))
        self.assertEqual((new_tree(pages), new_tree(pages)), (1, 2))
        self.assertEqual(pages.whole_state(), ((1,), (0, 0), (0, 0)))
        self.assertEqual((entries(pages, 1, None, None), height(pages, 1), nodes_of(pages, 1)), ([], 1, (1,)))

    def test_a_leaf_that_is_full(self):
        # Two entries of 42 numbers and one of 10 fill a page.
        for spare, length, right in [(0, 8, True), (0, 9, False), (1, 9, False), (2, 9, True)]:
            pages = blank_pages(1 + spare)
            root = new_tree(pages)
            put_in(pages, root, (1,) * 20, (1,) * 20)
            put_in(pages, root, (2,) * 20, (2,) * 20)
            before = (pages.whole_state(), pages.free)
            answer = told(put_in, pages, root, (), (3,) * length)
            self.assertEqual(answer, None if right else bad("NoRoom"))
            if not right:
                self.assertEqual((pages.whole_state(), pages.free), before)
            Judge(self, pages, root)
        self.assertEqual(pages.free, ())

    def test_the_root_keeps_its_number(self):
        pages = blank_pages(64)
        roots = [new_tree(pages) for _ in range(3)]
        self.assertEqual(roots, [0, 1, 2])
        for key in range(120):
            put_in(pages, 1, (key, 5, 5, 5), (key,))
        self.assertEqual((pages.get(0), pages.get(2)), ((0, 0), (0, 0)))
        self.assertEqual(len(entries(pages, 1, None, None)), 120)
        self.assertGreaterEqual(height(pages, 1), 2)

    def test_leave_tree(self):
        pages = blank_pages(40)
        roots = [new_tree(pages), new_tree(pages)]
        for key in range(60):
            for root in roots:
                put_in(pages, root, (key,) * 5, (key,) * 5)
        held = entries(pages, 1, None, None)
        mine = nodes_of(pages, 0)
        self.assertGreater(len(mine), 3)
        self.assertIsNone(leave_tree(pages, 0))
        self.assertTrue(set(mine) <= set(pages.free))
        self.assertEqual([pages.get(number) for number in mine], [()] * len(mine))
        self.assertEqual(entries(pages, 1, None, None), held)


class Packed(unittest.TestCase):
    def fewest_leaves(self, rows):
        """As few leaves as there can be, by trying where the last one begins."""
        fewest = [0] + [None] * len(rows)
        for end in range(1, len(rows) + 1):
            size = 2
            for begin in range(end - 1, -1, -1):
                size += 2 + len(rows[begin][0]) + len(rows[begin][1])
                if size > 96:
                    break
                fewest[end] = min(fewest[end] or 10 ** 9, fewest[begin] + 1)
        return max(1, fewest[-1])

    def check(self, pages, root):
        before = entries(pages, root, None, None)
        own = set(nodes_of(pages, root))
        others = {number: pages.get(number) for number in range(len(pages.whole_state())) if number not in own | set(pages.free)}
        self.assertIsNone(packed(pages, root))
        judge = Judge(self, pages, root)
        self.assertEqual(judge.found, before)
        self.assertEqual(len(judge.leaves), self.fewest_leaves(before))
        for leaf, behind in zip(judge.leaves, judge.leaves[1:]):
            with_next = len(leaf_of(*leaf, behind[0]))
            self.assertGreater(with_next, 96)
        self.assertEqual({number: pages.get(number) for number in others}, others)
        self.assertTrue(all(pages.get(number) == () for number in pages.free if number in own))
        return judge

    def test_any_trees(self):
        chosen = random.Random(171)
        for longest, values, signs, many in [(2, 2, 256, 100), (20, 20, 256, 60), (20, 0, 2, 120), (6, 20, 3, 150), (1, 0, 256, 200)]:
            pages = blank_pages(64)
            other, root = new_tree(pages), new_tree(pages)
            put_in(pages, other, (1,), (2,))
            for _ in range(many):
                put_in(pages, root, random_short(chosen, longest, signs), random_short(chosen, values))
            self.check(pages, root)
            for key, _ in chosen.sample(entries(pages, root, None, None), many // 4):
                drop_from(pages, root, key)
            judge = self.check(pages, root)
            numbers = set(judge.numbers)
            self.check(pages, root)
            self.assertEqual(set(nodes_of(pages, root)), numbers)

    def test_small_trees(self):
        pages = blank_pages(5)
        root = new_tree(pages)
        self.assertEqual(self.check(pages, root).leaves, [[]])
        put_in(pages, root, (1,), (2,))
        self.assertEqual(self.check(pages, root).leaves, [[((1,), (2,))]])

    def test_its_own_pages_serve_again(self):
        pages = blank_pages(64)
        root = new_tree(pages)
        key = 0
        while pages.free:
            put_in(pages, root, (key % 256, key // 256, *(1,) * 18), (9,) * 20)
            key += 7
            if key > 255:
                key = key % 256 + 256 * (key // 256)
        for _ in range(3):
            self.check(pages, root)
        for one, _ in entries(pages, root, None, None)[::3]:
            drop_from(pages, root, one)
        many = len(nodes_of(pages, root))
        self.check(pages, root)
        self.assertLessEqual(len(nodes_of(pages, root)), many)

    def test_other_pages_serve_no_more_than_needed(self):
        pages = blank_pages(30)
        root = new_tree(pages)
        for key in range(40):
            put_in(pages, root, (key * 37 % 256,) * 10, (1,) * 10)
        before = set(nodes_of(pages, root)) | set(pages.free)
        self.check(pages, root)
        self.assertEqual(set(nodes_of(pages, root)) | set(pages.free), before)


class WrongValues(unittest.TestCase):
    def setUp(self):
        self.pages = blank_pages(6)
        self.root = new_tree(self.pages)
        for key in range(20):
            put_in(self.pages, self.root, (key,) * 5, (key,))
        self.before = (self.pages.whole_state(), self.pages.free)

    def tearDown(self):
        self.assertEqual((self.pages.whole_state(), self.pages.free), self.before)

    def test_keys_and_values(self):
        pages, root = self.pages, self.root
        for wrong in BAD_SHORTS:
            self.assertEqual(told(find, pages, root, wrong), bad("BadEntry"), wrong)
            self.assertEqual(told(drop_from, pages, root, wrong), bad("BadEntry"))
            self.assertEqual(told(put_in, pages, root, wrong, ()), bad("BadEntry"))
            self.assertEqual(told(put_in, pages, root, (), wrong), bad("BadEntry"))
            self.assertEqual(told(put_in, pages, root, wrong, wrong), bad("BadEntry"))

    def test_bounds(self):
        for wrong in BAD_SHORTS:
            if wrong is not None:
                self.assertEqual(told(entries, self.pages, self.root, wrong, None), bad("BadEntry"))
                self.assertEqual(told(entries, self.pages, self.root, None, wrong), bad("BadEntry"))
                self.assertEqual(told(entries, self.pages, self.root, (5,), wrong), bad("BadEntry"))

    def test_wrong_values_come_ahead_of_no_room(self):
        full = blank_pages(1)
        root = new_tree(full)
        put_in(full, root, (1,), (9,) * 20)
        put_in(full, root, (2,), (9,) * 20)
        put_in(full, root, (3,), (9,) * 20)
        put_in(full, root, (4,), (9,) * 19)
        self.assertEqual(told(put_in, full, root, (5,), (9,) * 20), bad("NoRoom"))
        self.assertEqual(told(put_in, full, root, (5,), (9,) * 21), bad("BadEntry"))
        self.assertEqual(told(put_in, full, root, [5], (9,) * 20), bad("BadEntry"))

    def test_roots_that_are_no_pages(self):
        for root in [None, True, -1, 6, "0", (0,)]:
            for call, rest in [(find, ((),)), (put_in, ((), ())), (drop_from, ((),)), (entries, (None, None)), (nodes_of, ()),
                               (height, ()), (leave_tree, ()), (packed, ())]:
                self.assertEqual(told(call, self.pages, root, *rest), bad("BadNumber"))
            for call, rest in [(find, ([],)), (put_in, (None, [])), (put_in, ((), None)), (drop_from, (5,)), (entries, (5, 5))]:
                self.assertEqual(told(call, self.pages, root, *rest), bad("BadNumber"))

    def test_the_longest_that_may_stand(self):
        pages = blank_pages(2)
        root = new_tree(pages)
        put_in(pages, root, (255,) * 20, (0,) * 20)
        self.assertEqual(find(pages, root, (255,) * 20), (0,) * 20)


if __name__ == "__main__":
    unittest.main()
