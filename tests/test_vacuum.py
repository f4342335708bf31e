import random
import unittest

from cutledger.cellcodes import row_key
from cutledger.disks import is_state
from cutledger.faults import faults
from cutledger.pagesets import PageSet
from cutledger.tables import Tables
from cutledger.trees import height, nodes_of, packed
from cutledger.vacuum import free_pages, living, tightened
from helpers import ANYTHING, bad, told
from serial import content
from test_tables import random_row, random_schema

PETS = ("pets", (("id", "number"), ("name", "text")), 1)


def tables_behind(state):
    return Tables(PageSet(state, free_pages(state)))


def leaf(*pairs):
    numbers = [0, len(pairs)]
    for key, value in pairs:
        numbers += [len(key), *key, len(value), *value]
    return tuple(numbers)


def any_tables(chosen, many=64):
    """Tables with indexes and guards, some of which were taken away again, in a page set that gives pages anywhere."""
    pages = PageSet(((),) * many, tuple(sorted(chosen.sample(range(1, many), many - 4))))
    tables = Tables(pages)
    for name in ("a", "b", "c"):
        schema = random_schema(chosen, name)
        tables.make(schema)
        first = schema[1][0][0]
        told(tables.make_index, ("i" + name, name, (first,)))
        told(tables.make_index, ("j" + name, name, tuple(pair[0] for pair in schema[1][:2])))
        tables.make_guard(("g" + name, name, (first,), None))
        for _ in range(chosen.randint(0, 50)):
            told(tables.put, name, random_row(chosen, schema))
        for row in tables.rows(name, None, None):
            if chosen.randrange(2):
                tables.drop(name, row[:schema[2]])
    if chosen.randrange(2):
        tables.remove(chosen.choice(["a", "gb", *[index[0] for index in tables.indexes()]]))
    return tables


class Living(unittest.TestCase):
    def test_examples(self):
        self.assertEqual([living(((),)), free_pages(((0, 0), (5,), ()))], [(0,), (1, 2)])

    def test_pages_that_are_not_free(self):
        for seed in range(12):
            chosen = random.Random(6000 + seed)
            tables = any_tables(chosen)
            state = tables.pages.whole_state()
            lives = living(state)
            self.assertEqual(sorted([*lives, *free_pages(state)]), list(range(64)))
            self.assertEqual(lives, tuple(sorted(lives)))
            # What the page set still gives was either never taken or has been left.
            never_given = {number for number in range(1, 64) if number not in lives and number not in tables.pages.free}
            self.assertEqual(len(never_given), 3)
            self.assertFalse(set(lives) & set(tables.pages.free))

    def test_void_states(self):
        for many in (1, 2, 64):
            self.assertEqual(living(((),) * many), (0,))
            self.assertEqual(free_pages(((),) * many), tuple(range(1, many)))
        self.assertEqual((living(((0, 0),)), free_pages(((0, 0),))), ((0,), ()))

    def test_pages_that_nobody_uses(self):
        tables = any_tables(random.Random(6100), 40)
        state = tables.pages.whole_state()
        lives = living(state)
        spoilt = tuple(page if number in lives else (7,) * (number + 1) for number, page in enumerate(state))
        self.assertEqual((living(spoilt), free_pages(spoilt)), (lives, free_pages(state)))
        self.assertEqual(content(tables_behind(spoilt)), content(tables))


class Tightened(unittest.TestCase):
    def test_the_same_tables_in_fewer_pages(self):
        for seed in range(20):
            chosen = random.Random(6200 + seed)
            tables = any_tables(chosen)
            state = tables.pages.whole_state()
            lives = living(state)
            spoilt = tuple(page if number in lives else (9,) * chosen.randrange(4) for number, page in enumerate(state))
            tight = tightened(spoilt)
            self.assertEqual(tight, tightened(state))
            self.assertEqual(content(tables_behind(tight)), content(tables))
            self.assertLessEqual(len(living(tight)), len(lives))
            self.assertEqual({tight[number] for number in free_pages(tight)} - {()}, set())
            self.assertEqual([pair for pair in faults(tight) if pair[0] != "guard"], [])
            again = tightened(tight)
            self.assertEqual((content(tables_behind(again)), len(living(again))), (content(tables), len(living(tight))))

    def test_trees_are_packed(self):
        tables = any_tables(random.Random(6300))
        state = tables.pages.whole_state()
        told_of = self.trees(state)
        self.assertGreater(len(told_of), 5)
        tight = tightened(state)
        self.assertEqual(self.trees(tight), told_of)
        for root in told_of:
            pages = PageSet(state, free_pages(state))
            packed(pages, root)
            one, other = pages, PageSet(tight, ())
            self.assertEqual((len(nodes_of(one, root)), height(one, root)), (len(nodes_of(other, root)), height(other, root)))
            packed(other, root)
            self.assertEqual(other.batch(), ())

    def trees(self, state):
        """The roots of a state: the catalogue's, and those that no node tells of."""
        children = [child for number in living(state) if state[number][0] == 1 for child in state[number][2:2 + state[number][1]]]
        return [number for number in living(state) if number not in children]

    def test_void_states(self):
        for state in [((),), ((),) * 5, ((), (1,), (2, 3))]:
            tight = tightened(state)
            self.assertEqual(tight, ((),) * len(state))
        self.assertEqual(tightened(((0, 0), (5,), ())), ((0, 0), (), ()))

    def inner(self, children, bounds):
        numbers = [1, len(children), *children]
        for bound in bounds:
            numbers += [len(bound), *bound]
        return tuple(numbers)

    def state_that_grows(self, spare):
        """A state with a right tree that needs 4 pages more when it is packed.

        Leaf by leaf, the entries have another first sign, so the bounds between leaves are short. Packed, a small
        entry ahead of all lets each leaf begin one entry later, and the bounds there are long.
        """
        tables = Tables(PageSet(((),) * 64, tuple(range(1, 64))))
        tables.make(("t", (("a", "text"), ("b", "text")), 1))
        firsts = "ABCDEFGHIJKLMNOPQRSTUVWXYZabcd"
        rows = [("", "")] + [(first + "zzzzzzzz" + last, "y" * 9) for first in firsts for last in "1234"]
        pairs = [(row_key(("text",), row[:1]), row_key(("text",), row[1:])) for row in rows]
        groups = [pairs[:1]] + [pairs[at:at + 4] for at in range(1, len(pairs), 4)]
        root = self.inner(range(2, 2 + len(groups)), [group[0][0][:1] for group in groups[1:]])
        state = (tables.pages.get(0), root, *[leaf(*group) for group in groups], *[(5,)] * spare)
        self.assertTrue(all(len(page) <= 96 for page in state))
        self.assertEqual(faults(state), [])
        self.assertEqual(tables_behind(state).rows("t", None, None), rows)
        return state

    def test_no_room(self):
        for spare in range(4):
            state = self.state_that_grows(spare)
            self.assertEqual(told(tightened, state), bad("NoRoom"))
            self.assertEqual(told(packed, PageSet(state, free_pages(state)), 1), bad("NoRoom"))
        state = self.state_that_grows(4)
        tight = tightened(state)
        self.assertEqual(content(tables_behind(tight)), content(tables_behind(state)))
        self.assertEqual((free_pages(tight), faults(tight)), ((), []))

    def test_a_tree_that_grows_takes_what_later_ones_leave(self):
        state = self.state_that_grows(20)
        tables = tables_behind(state)
        tables.make(("u", (("k", "number"), ("x", "text")), 1))
        keys = list(range(1000))
        random.Random(6301).shuffle(keys)
        while tables.pages.free:
            tables.put("u", (keys.pop(), "zzzzz"))
        full = tables.pages.whole_state()
        self.assertEqual(free_pages(full), ())
        pages = PageSet(full, ())
        self.assertEqual(told(packed, pages, 1), bad("NoRoom"))
        tight = tightened(full)
        self.assertEqual(content(tables_behind(tight)), content(tables))
        self.assertEqual(faults(tight), [])

    def test_wrong_values(self):
        wrong = [value for value in ANYTHING if not is_state(value)]
        wrong += [((),) * 65, ((256,),), ((-1,),), ((True,),), ([],), [()], ((0,) * 97,), ((1, "x"),), ((None,),)]
        for state in wrong:
            for function in (living, free_pages, tightened):
                self.assertEqual(told(function, state), bad("BadState"), state)

    def test_arguments_are_not_modified(self):
        tables = any_tables(random.Random(6400))
        state = tables.pages.whole_state()
        tightened(state)
        self.assertEqual(state, tables.pages.whole_state())


if __name__ == "__main__":
    unittest.main()
