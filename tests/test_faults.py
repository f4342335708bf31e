import random
import unittest

from cutledger.disks import is_state
from cutledger.faults import faults
from cutledger.pagesets import PageSet
from cutledger.tables import Tables
from cutledger.trees import entries, new_tree, put_in
from cutledger.vacuum import free_pages, living, tightened
from cutledger.works import Base
from helpers import ANYTHING, bad, told
from serial import content, first_broken
from test_tables import random_row, random_schema
from test_vacuum import leaf
from test_works import ALL_WORDS, any_call

WORDS = ("away", "twice", "node", "order", "depth", "catalogue", "row", "index", "guard")


def inner(children, bounds):
    numbers = [1, len(children), *children]
    for bound in bounds:
        numbers += [len(bound), *bound]
    return tuple(numbers)


def number(value):
    """The bytes of a number as point 44 says it."""
    value += 1000000
    return (value // 65536, value // 256 % 256, value % 256)


def with_pages(state, changes):
    return tuple(changes.get(at, page) for at, page in enumerate(state))


def tables_behind(state):
    return Tables(PageSet(state, free_pages(state)))


def small():
    """A state with a table t at page 1 (a number, b number) of ten rows, an index of it at page 2, and a guard."""
    pages = PageSet(((),) * 12, tuple(range(1, 12)))
    tables = Tables(pages)
    tables.make(("t", (("a", "number"), ("b", "number")), 1))
    tables.make_index(("i", "t", ("b",)))
    tables.make_guard(("g", "t", ("b",), None))
    for at in range(5):
        tables.put("t", (at, 10 - at))
    return pages.whole_state()


def rows_of(rows):
    return [(number(a), number(b)) for a, b in rows]


def index_of(rows):
    return sorted([(number(b) + number(a), ()) for a, b in rows])


ROWS = [(at, 10 - at) for at in range(5)]


class Judging(unittest.TestCase):
    def judged(self, state, *words):
        """The words told of a state; pages are of the state, and words are among these, if there are some."""
        found = faults(state)
        self.assertIsInstance(found, list)
        for pair in found:
            self.assertTrue(isinstance(pair, tuple) and len(pair) == 2 and pair[0] in WORDS and pair[1] in range(len(state)), pair)
        if words:
            self.assertTrue(found)
            self.assertTrue({pair[0] for pair in found} & set(words), (found, words))
        return found

    def test_examples(self):
        self.assertEqual([faults(((), (1,))), faults(((0, 0),))], [[("node", 0)], []])

    def test_void_pages(self):
        for many in (1, 2, 64):
            self.assertEqual(faults(((),) * many), [])
            self.assertEqual(faults(((0, 0),) + ((),) * (many - 1)), [])
        for page in [(0,), (0, 0), (1, 2, 3), (255,) * 96]:
            for at in (1, 5):
                self.judged(with_pages(((),) * 6, {at: page}), *WORDS)

    def test_a_state_that_is_right(self):
        state = small()
        self.assertEqual(faults(state), [])
        self.assertEqual((state[1], state[2]), (leaf(*rows_of(ROWS)), leaf(*index_of(ROWS))))
        # What stands on pages that nobody tells of is no fault.
        self.assertEqual(faults(with_pages(state, {3: (9, 9), 7: (1, 1, 1), 11: (255,) * 96})), [])

    def test_page_0(self):
        for page in [(0,), (1,), (2, 0), (0, 1), (0, 0, 0), (1, 0), (1, 1, 1), (1, 1, 0), (1, 2, 1, 1), (1, 2, 1, 2), (1, 2, 1, 2, 0), (255,), (0, 0, 5)]:
            self.judged(with_pages(small(), {0: page}), *WORDS)
            self.judged((page,), *WORDS)

    def test_nodes(self):
        state = small()
        good = state[1]
        for page in [(), (0,), (2, *good[1:]), good[:-1], (*good, 0), (0, 4, *good[2:]), (0, 6, *good[2:]), (0, 5, 4, *good[3:]), (0, 5, 200, *good[3:]),
                     (0, 0), (0, 1, 21, *(1,) * 21, 0), (0, 1, 0, 21, *(1,) * 21), (1, 0), (1, 1, 3), (5, 5, 5)]:
            found = self.judged(with_pages(state, {1: page}))
            self.assertTrue(found, page)

    def test_keys_of_twenty_numbers(self):
        pages = PageSet(((),) * 4, (1, 2, 3))
        tables = Tables(pages)
        columns = (("a", "text"), ("b", "number"), ("c", "number"), ("d", "number"))
        tables.make(("t", columns, 4))
        tables.put("t", ("~" * 10, 5, 5, 5))
        self.assertEqual(faults(pages.whole_state()), [])

    def test_order(self):
        state = small()
        rows = rows_of(ROWS)
        for wrong in [[rows[1], rows[0], *rows[2:]], [rows[0], rows[0], *rows[1:]], list(reversed(rows))]:
            self.judged(with_pages(state, {1: leaf(*wrong)}), "order")

    def test_inner_nodes(self):
        state = small()
        rows = rows_of(ROWS)
        one, two = leaf(*rows[:2]), leaf(*rows[2:])
        bound = rows[2][0]
        self.assertEqual(faults(with_pages(state, {1: inner([3, 4], [bound]), 3: one, 4: two})), [])
        self.assertEqual(faults(with_pages(state, {1: inner([4, 3], [bound[:3]]), 4: one, 3: two})), [])
        between = (*rows[1][0], 0)
        self.assertEqual(faults(with_pages(state, {1: inner([3, 4], [between]), 3: one, 4: two})), [])
        for changes, word in [
            ({1: inner([3, 4], [rows[1][0]])}, "order"), ({1: inner([3, 4], [(*bound, 0)])}, "order"), ({1: inner([4, 3], [bound])}, "order"),
            ({1: inner([3, 12], [bound])}, "away"), ({1: inner([3, 255], [bound])}, "away"), ({1: inner([3, 3], [bound])}, "twice"),
            ({1: inner([3, 1], [bound])}, "twice"), ({1: inner([3, 2], [bound])}, "twice"), ({1: inner([3, 0], [bound])}, "twice"),
            ({1: inner([3, 5], [bound])}, "node"), ({1: inner([3], [])}, "node"), ({1: inner([3, 4, 5], [bound, (255,)]), 5: (0, 0)}, "node"),
            ({1: inner([3, 4], [bound]), 4: inner([5], []), 5: two}, "depth"), ({1: inner([3, 4, 5], [bound, bound]), 5: two}, "order"),
            ({1: (1, 2, 3, 4)}, "node"), ({1: (1, 2, 3, 4, 21, *(15,) * 21)}, "node"), ({1: (*inner([3, 4], [bound]), 0)}, "node"),
        ]:
            self.judged(with_pages(state, {3: one, 4: two, **changes}), word)
        # Inner nodes below the root may have one child.
        deeper = {1: inner([3, 4], [bound]), 3: inner([5], []), 5: one, 4: inner([6], []), 6: two}
        self.assertEqual(faults(with_pages(state, deeper)), [])
        self.judged(with_pages(state, {**deeper, 4: inner([3], [])}), "twice")
        self.judged(with_pages(state, {**deeper, 4: inner([6, 7], [(255,)]), 7: (0, 0)}), "node")

    def test_bounds_two_levels_up(self):
        state = small()
        rows = rows_of(ROWS)
        parts = [leaf(*rows[:1]), leaf(*rows[1:2]), leaf(*rows[2:3]), leaf(*rows[3:])]
        keys = [key for key, _ in rows]
        good = {1: inner([3, 4], [keys[2]]), 3: inner([5, 6], [keys[1]]), 4: inner([7, 8], [keys[3]]), 5: parts[0], 6: parts[1], 7: parts[2], 8: parts[3]}
        self.assertEqual(faults(with_pages(state, good)), [])
        self.judged(with_pages(state, {**good, 1: inner([3, 4], [keys[1]])}), "order")
        self.judged(with_pages(state, {**good, 1: inner([3, 4], [keys[3]])}), "order")
        self.judged(with_pages(state, {**good, 6: parts[2], 7: parts[1]}), "order")

    def test_rows(self):
        state = small()
        rows = rows_of(ROWS)
        for row in [((15, 66), ()), (rows[4][0], rows[4][1][:2]), (rows[4][0], ()), (rows[4][0], (*rows[4][1], 0)), ((30, 132, 129), rows[4][1]), (rows[4][0], (30, 132, 129)),
                    ((255, 255, 255), rows[4][1]), ((15, 66, 68, 0), rows[4][1])]:
            self.judged(with_pages(state, {1: leaf(*sorted([*rows[:4], row]))}), "row")

    def test_rows_of_other_kinds(self):
        pages = PageSet(((),) * 4, (1, 2, 3))
        tables = Tables(pages)
        tables.make(("t", (("a", "text"), ("b", "truth")), 1))
        state = pages.whole_state()
        for key, value, fine in [((66, 0), (1,), True), ((0,), (0,), True), ((94, 0), (1,), True), ((95, 0), (1,), False), ((66,), (1,), False), ((66, 0), (2,), False),
                                 ((66, 0, 0), (1,), False), ((66,) * 10 + (0,), (1,), True), ((66,) * 11 + (0,), (1,), False), ((66, 0), (), False), ((), (1,), False)]:
            found = self.judged(with_pages(state, {1: leaf((key, value))}))
            self.assertEqual(found, [] if fine else [("row", 1)], (key, value))

    def test_indexes(self):
        state = small()
        held = index_of(ROWS)
        for wrong in [held[1:], held[:-1], [], [*held[:4], (number(11) + number(0), ())], [(key, (0,)) for key, _ in held], [*held, (number(50) + number(50), ())]]:
            self.assertEqual(self.judged(with_pages(state, {2: leaf(*wrong)})), [("index", 2)])
        self.judged(with_pages(state, {1: leaf(*rows_of(ROWS[1:]))}), "index")
        self.judged(with_pages(state, {1: leaf(*rows_of([*ROWS[:4], (4, 77)]))}), "index")

    def test_guards(self):
        state = small()
        rows = [*ROWS[:4], (4, 10)]
        broken = with_pages(state, {1: leaf(*rows_of(rows)), 2: leaf(*index_of(rows))})
        self.assertEqual(self.judged(broken), [("guard", 1)])
        pages = PageSet(((),) * 12, tuple(range(1, 12)))
        tables = Tables(pages)
        tables.make(("t", (("a", "number"), ("b", "number")), 1))
        tables.make(("u", (("k", "number"),), 1))
        tables.make_guard(("h", "t", ("b",), "u"))
        self.assertEqual(faults(pages.whole_state()), [])
        tables.put("t", (1, 5))
        self.judged(pages.whole_state(), "guard")
        tables.put("u", (5,))
        self.assertEqual(faults(pages.whole_state()), [])
        tables.put("t", (2, 6))
        self.judged(pages.whole_state(), "guard")
        tables.remove("u")
        self.assertEqual(faults(pages.whole_state()), [])

    def catalogue(self, state, change):
        """A state whose catalogue has other entries, laid out anew."""
        pages = PageSet(with_pages(state, {0: ()}), tuple(sorted({0, *free_pages(state)})))
        held = dict(entries(PageSet(state, ()), 0, None, None))
        change(held)
        root = new_tree(pages)
        self.assertEqual(root, 0)
        for key in sorted(held):
            put_in(pages, 0, key, held[key])
        return pages.whole_state()

    def changed_entry(self, name, at, value):
        """The small state with a number of an entry of the catalogue changed."""
        def change(held):
            for key in list(held):
                if key[:-1] == name:
                    numbers = list(held[key])
                    numbers[at] = value
                    held[key] = tuple(numbers)
        return self.catalogue(small(), change)

    def test_catalogues(self):
        state = small()
        self.assertEqual(faults(self.catalogue(state, lambda held: None)), [])
        names = {key[:-1]: value for key, value in entries(PageSet(state, ()), 0, None, None)}
        self.assertEqual(len(names), 3)
        for name, value in names.items():
            for at in range(len(value)):
                for other in (0, 1, 2, 3, 4, 11, 12, 26, 27, 31, 32, 33, 34, 58, 59, 64, 65, 90, 97, 98, 123, 129, 255):
                    changed = self.changed_entry(name, at, other)
                    found = self.judged(changed)
                    if not found:
                        self.agrees(changed)
        for change in [lambda held: held.update({(): (1,)}), lambda held: held.update({(33,): (1,)}), lambda held: held.update({(33, 0): ()}),
                       lambda held: held.update({(33, 1): (1, 3, 1, 33)}), lambda held: held.update({(1, 0): (1, 3, 1, 33)}), lambda held: held.update({(59, 0): (1, 3, 1, 33)}),
                       lambda held: held.update({(33, 33, 0): (1, 3, 1, 33)}), lambda held: held.update({(65, 0): (1, 3, 1, 33)}),
                       lambda held: held.update({(*(1,) * 8, 33, 0): (1, 3, 1, 33)}), lambda held: held.update({(33, 0): (1, 3, 1)}), lambda held: held.update({(33, 0): (1, 3)}),
                       lambda held: held.update({(33, 0): (1,)}), lambda held: held.update({(33, 0): (0, 3, 1, 33)}), lambda held: held.update({(33, 0): (4, 3, 1, 33)}),
                       lambda held: held.update({(33, 0): (2, 3, 52)}), lambda held: held.update({(33, 0): (2, 3, 33, 34)}), lambda held: held.update({(33, 0): (3, 1, 52, 33)}),
                       lambda held: held.update({(33, 0): (3, 2, 52, 52, 33)}), lambda held: held.update({(33, 0): (3, 0, 52)}), lambda held: held.update({(33, 0): (1, 3, 0, 33)}),
                       lambda held: held.update({(33, 0): (1, 3, 2, 33)}), lambda held: held.update({(33, 0): (1, 3, 1, 33, 33)}), lambda held: held.update({(33, 0): (1, 3, 1, 33, 1)}),
                       lambda held: held.update({(33, 0): (1, 3, 1, *(33, 34, 35, 36, 37, 38))}), lambda held: held.update({(33, 0): (1, 3, 2, 65, 66)}),
                       lambda held: [held.pop(key) for key in list(held) if held[key][0] == 1]]:
            self.judged(self.catalogue(state, change), "catalogue")
        right = self.catalogue(with_pages(state, {3: (0, 0)}), lambda held: held.update({(33, 0): (1, 3, 1, 33)}))
        # Page 3 serves the table that was added.
        self.assertEqual([pair for pair in faults(with_pages(right, {3: (0, 0)})) if pair[0] == "catalogue"], [])

    def test_roots(self):
        for name in [key[:-1] for key, value in entries(PageSet(small(), ()), 0, None, None) if value[0] < 3]:
            self.judged(self.changed_entry(name, 1, 12), "away")
            self.judged(self.changed_entry(name, 1, 255), "away")
            self.judged(self.changed_entry(name, 1, 0), "twice")
            self.judged(self.changed_entry(name, 1, 5), "node")
        self.judged(self.changed_entry((41,), 1, 1), "twice")

    def agrees(self, state):
        """Whether tables, indexes and guards of a state agree, as the calls of tables tell them."""
        tables = tables_behind(state)
        schemas, indexes, guards, rows, by = content(tables)
        for schema in schemas:
            columns = [name for name, _ in schema[1]]
            for row in rows[schema[0]]:
                self.assertEqual(tables.get(schema[0], row[:schema[2]]), row)
            for index, table, names in indexes:
                if table == schema[0]:
                    key = [columns.index(name) for name in names] + list(range(schema[2]))
                    self.assertEqual(by[index], sorted(rows[table], key=lambda row: [row[at] for at in key]))
        self.assertIsNone(first_broken((schemas, indexes, guards, rows, by)))
        # All of it can be done again.
        again = tables_behind(tightened(state))
        self.assertEqual(content(again), (schemas, indexes, guards, rows, by))

    def test_one_sign_changed(self):
        quiet = 0
        for seed in range(25):
            chosen = random.Random(8500 + seed)
            state = self.any_state(chosen)
            self.assertEqual(faults(state), [])
            lives = living(state)
            for _ in range(120):
                at = chosen.choice(lives)
                page = list(state[at])
                lot = chosen.randrange(6)
                if lot == 0 and page:
                    page.pop(chosen.randrange(len(page)))
                elif lot == 1 and len(page) < 96:
                    page.insert(chosen.randint(0, len(page)), chosen.randrange(256))
                elif page:
                    place = chosen.randrange(len(page))
                    page[place] = chosen.choice((page[place] ^ 1 << chosen.randrange(8), chosen.randrange(256), (page[place] + 1) % 256))
                changed = with_pages(state, {at: tuple(page)})
                if not self.judged(changed):
                    self.agrees(changed)
                    quiet += 1
        self.assertGreater(quiet, 20)

    def test_one_page_changed(self):
        for seed in range(25):
            chosen = random.Random(8600 + seed)
            state, other = self.any_state(chosen), self.any_state(chosen)
            lives = living(state)
            for _ in range(40):
                at = chosen.choice(lives)
                page = chosen.choice(((), (0, 0), chosen.choice(state), chosen.choice(other), tuple(chosen.randrange(256) for _ in range(chosen.randrange(97)))))
                changed = with_pages(state, {at: page})
                if not self.judged(changed):
                    self.agrees(changed)

    def test_any_pages(self):
        for seed in range(300):
            chosen = random.Random(8700 + seed)
            state = tuple(tuple(chosen.choice((0, 1, 2, 3, 33, chosen.randrange(256))) for _ in range(chosen.randrange(20))) for _ in range(chosen.randint(1, 8)))
            if not self.judged(state):
                self.agrees(state)

    def any_state(self, chosen):
        """A state of works."""
        base = Base((chosen.randint(24, 64), 64))
        for _ in range(chosen.randint(2, 10)):
            work = base.begin()
            for _ in range(chosen.randint(1, 14)):
                told(lambda call: getattr(work, call[0])(*call[1:]), any_call(chosen, ALL_WORDS + ["make"] * 6))
            told(work.finish)
        work = base.begin()
        schema = random_schema(chosen, "zz")
        told(work.make, schema)
        told(work.make_index, ("zi", "zz", (schema[1][-1][0],)))
        for _ in range(chosen.randint(0, 60)):
            told(work.put, "zz", random_row(chosen, schema))
        told(work.finish)
        return base.state

    def test_states_of_works(self):
        for seed in range(30):
            chosen = random.Random(8800 + seed)
            state = self.any_state(chosen)
            self.assertEqual(faults(state), [])
            self.assertEqual(faults(tightened(state)), [])
            self.agrees(state)

    def test_wrong_values(self):
        for state in [value for value in ANYTHING if not is_state(value)] + [((),) * 65, ((256,),), ((True,),), ([],), [()], ((0,) * 97,), ((None,),)]:
            self.assertEqual(told(faults, state), bad("BadState"), state)

    def test_lists_are_new(self):
        for state in [((), (1,)), ((0, 0),), small(), ((1, 2),)]:
            first = faults(state)
            kept = list(first)
            first.append(None)
            self.assertEqual(faults(state), kept)

if __name__ == "__main__":
    unittest.main()
