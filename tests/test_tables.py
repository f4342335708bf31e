import copy
import random
import unittest

from cutledger.errors import NoRoom
from cutledger.pagesets import PageSet
from cutledger.tables import Tables
from helpers import ANYTHING, NO_INTEGERS, NO_TUPLES, bad, told
from test_cellcodes import NO_NUMBERS, NO_TEXTS, NO_TRUTHS, SIGNS

PETS = ("pets", (("id", "number"), ("name", "text")), 1)
BAD_NAMES = [value for value in ANYTHING if not isinstance(value, str)] + [
    "", "A", "Pets", "pet1", "pets ", " pets", "pet_s", "abcdefghi", "pets\n", "\u00e9", "p.q", "1", b"pets", ["pets"], ("pets",),
]
WIDTHS = {"number": 3, "text": 11, "truth": 1}


def blank_pages(many=32):
    return PageSet(((),) * many, tuple(range(1, many)))


def seen(pages):
    return (pages.whole_state(), pages.free, pages.batch())


class Examples(unittest.TestCase):
    def test_examples(self):
        tables = Tables(PageSet(((),) * 8, (1, 2, 3, 4, 5, 6, 7)))
        self.assertIsNone(tables.make(("pets", (("id", "number"), ("name", "text")), 1)))
        self.assertIsNone(tables.put("pets", (2, "Ada")))
        self.assertIsNone(tables.put("pets", (1, "Bo")))
        self.assertEqual(
            [tables.rows("pets", None, None), tables.get("pets", (2,)), tables.get("pets", (3,))],
            [[(1, "Bo"), (2, "Ada")], (2, "Ada"), None])
        self.assertEqual(told(Tables(PageSet(((),), ())).get, "no", (1,)), bad("NoTable", name="no"))


class Beside:
    """Tables, and beside them dicts of rows."""

    def __init__(self, test, pages):
        self.test = test
        self.pages = pages
        self.tables = Tables(pages)
        self.held = {}
        self.indexes = {}
        self.guards = {}
        self.refused = 0

    def call(self, method, *arguments):
        """Whether a call of the tables was done; if it meets NoRoom, nothing is changed."""
        before = seen(self.pages)
        try:
            self.test.assertIsNone(getattr(self.tables, method)(*arguments))
            return True
        except NoRoom:
            self.refused += 1
            self.test.assertEqual(seen(self.pages), before)
            return False

    def make(self, schema):
        if self.call("make", schema):
            self.held[schema[0]] = (schema, {})

    def make_index(self, index):
        if self.call("make_index", index):
            self.indexes[index[0]] = index

    def make_guard(self, guard):
        if self.call("make_guard", guard):
            self.guards[guard[0]] = guard

    def remove(self, name):
        self.test.assertIsNone(self.tables.remove(name))
        if name in self.held:
            del self.held[name]
            self.indexes = {other: index for other, index in self.indexes.items() if index[1] != name}
            self.guards = {other: guard for other, guard in self.guards.items() if name not in (guard[1], guard[3])}
        else:
            self.indexes.pop(name, None)
            self.guards.pop(name, None)

    def put(self, table, row):
        schema, rows = self.held[table]
        if self.call("put", table, row):
            rows[row[:schema[2]]] = row

    def drop(self, table, key):
        before = seen(self.pages)
        answer = self.tables.drop(table, key)
        self.test.assertIs(answer, key in self.held[table][1])
        if not answer:
            self.test.assertEqual(seen(self.pages), before)
        self.held[table][1].pop(key, None)

    def ordered(self, table, names, low, high):
        """The rows of a table by columns and then by key, within bounds of the columns."""
        schema, rows = self.held[table]
        columns = [pair[0] for pair in schema[1]]
        places = [columns.index(name) for name in names]

        def values(row):
            return tuple(row[place] for place in places)

        return sorted([row for row in rows.values() if (low is None or values(row) >= low) and (high is None or values(row) < high)],
                      key=lambda row: (*values(row), *row[:schema[2]]))

    def compare(self, tables, chosen):
        test = self.test
        test.assertEqual(tables.schemas(), [self.held[name][0] for name in sorted(self.held)])
        test.assertEqual(tables.indexes(), [self.indexes[name] for name in sorted(self.indexes)])
        test.assertEqual(tables.guards(), [self.guards[name] for name in sorted(self.guards)])
        for name, (schema, rows) in self.held.items():
            key = [pair[0] for pair in schema[1]][:schema[2]]
            test.assertEqual(repr(tables.rows(name, None, None)), repr(self.ordered(name, key, None, None)))
            for low, high in self.bounds(chosen, schema, key):
                test.assertEqual(tables.rows(name, low, high), self.ordered(name, key, low, high))
            for one in list(rows)[:5]:
                test.assertEqual(tables.get(name, one), rows[one])
            one = tuple(random_value(chosen, pair[1]) for pair in schema[1][:schema[2]])
            test.assertEqual(tables.get(name, one), rows.get(one))
        for name, (_, table, names) in self.indexes.items():
            test.assertEqual(tables.rows_by(name, None, None), self.ordered(table, names, None, None))
            for low, high in self.bounds(chosen, self.held[table][0], names):
                test.assertEqual(tables.rows_by(name, low, high), self.ordered(table, names, low, high))

    def bounds(self, chosen, schema, names):
        """Some bounds of each length for columns."""
        kinds = dict(schema[1])
        for length in range(len(names) + 1):
            few = [tuple(random_value(chosen, kinds[name]) for name in names[:length]) for _ in range(2)]
            yield from [(few[0], few[1]), (None, few[0]), (few[1], None)]


def random_value(chosen, kind):
    if kind == "number":
        return chosen.choice((0, 1, 2, 3, -1, chosen.randint(-1000000, 1000000), 1000000, -1000000))
    if kind == "text":
        return "".join(chosen.choice("ab ~" + chosen.choice(SIGNS)) for _ in range(chosen.choice((0, 1, 1, 2, 10))))
    return chosen.choice((False, True))


def random_name(chosen):
    return "".join(chosen.choice("abz") for _ in range(chosen.choice((1, 2, 3, 8))))


def random_schema(chosen, name):
    """A schema of any kinds whose bytes are not too many."""
    while True:
        names = list(dict.fromkeys(random_name(chosen) for _ in range(chosen.randint(1, 5))))
        columns = tuple((one, chosen.choice(("number", "number", "text", "truth", "truth"))) for one in names)
        many = chosen.randint(1, len(columns))
        wide = [sum(WIDTHS[kind] for _, kind in part) for part in (columns[:many], columns[many:])]
        if max(wide) <= 20:
            return (name, columns, many)


def random_row(chosen, schema):
    return tuple(random_value(chosen, kind) for _, kind in schema[1])


class AtWork(unittest.TestCase):
    def work(self, chosen, beside, calls):
        """Any calls, with up to three tables and two indexes of each."""
        for call in range(calls):
            word = chosen.choice(["put"] * 12 + ["drop"] * 4 + ["make", "index", "guard", "remove"])
            name = random_name(chosen)
            taken = name in beside.held or name in beside.indexes or name in beside.guards
            table = chosen.choice(sorted(beside.held)) if beside.held else None
            if word == "make" and not taken and len(beside.held) < 3:
                beside.make(random_schema(chosen, name))
            elif word == "remove" and (beside.held or beside.guards) and chosen.randrange(3) == 0:
                beside.remove(chosen.choice(sorted([*beside.held, *beside.indexes, *beside.guards])))
            elif table is not None:
                self.work_on(chosen, beside, word, table, None if taken else name)
            if call % 4 == 0:
                beside.compare(beside.tables, chosen)
        beside.compare(Tables(beside.pages), chosen)

    def work_on(self, chosen, beside, word, table, name):
        schema, rows = beside.held[table]
        names = tuple(chosen.sample([pair[0] for pair in schema[1]], chosen.randint(1, min(3, len(schema[1])))))
        if word == "put":
            beside.put(table, random_row(chosen, schema))
        elif word == "drop":
            key = chosen.choice(list(rows)) if rows and chosen.randrange(3) else random_row(chosen, schema)[:schema[2]]
            beside.drop(table, key)
        elif word == "index" and name is not None and len([1 for index in beside.indexes.values() if index[1] == table]) < 2:
            kinds = dict(schema[1])
            if sum(WIDTHS[kinds[one]] for one in names) + sum(WIDTHS[kind] for _, kind in schema[1][:schema[2]]) <= 20:
                beside.make_index((name, table, names))
        elif word == "guard" and name is not None and len(beside.guards) < 4:
            kinds = dict(schema[1])
            right = [other for other, (one, _) in beside.held.items()
                     if [kind for _, kind in one[1][:one[2]]] == [kinds[column] for column in names]]
            beside.make_guard((name, table, names, chosen.choice([None, *right])))

    def test_many_pages(self):
        for seed in range(191, 197):
            chosen = random.Random(seed)
            beside = Beside(self, blank_pages(64))
            self.work(chosen, beside, 220)
            for name in list(beside.held):
                beside.remove(name)
            self.assertEqual((beside.indexes, beside.guards), ({}, {}))
            self.assertEqual(beside.pages.free, tuple(range(1, 64)))
            self.assertEqual(set(beside.pages.whole_state()[1:]), {()})

    def test_few_pages(self):
        refused = 0
        for many in (1, 2, 3, 4, 5, 6, 8, 10, 12):
            chosen = random.Random(200 + many)
            beside = Beside(self, blank_pages(many))
            self.work(chosen, beside, 150)
            refused += beside.refused
            for name in list(beside.held):
                beside.remove(name)
            self.assertEqual(beside.pages.free, tuple(range(1, many)))
        self.assertGreater(refused, 100)

    def test_three_tables_with_two_indexes_each(self):
        chosen = random.Random(211)
        beside = Beside(self, blank_pages(64))
        for table in ("one", "two", "three"):
            beside.make((table, (("id", "number"), ("name", "text"), ("old", "truth"), ("age", "number")), 1))
            beside.make_index((table + "n", table, ("name", "old")))
            beside.make_index(("by" + table, table, ("old", "age", "id")))
        for call in range(240):
            table = chosen.choice(("one", "two", "three"))
            if chosen.randrange(3):
                beside.put(table, (chosen.randrange(25), random_value(chosen, "text"), chosen.choice((True, False)), chosen.randrange(5)))
            else:
                beside.drop(table, (chosen.randrange(25),))
            if call % 10 == 0:
                beside.compare(beside.tables, chosen)
        beside.remove("onen")
        beside.remove("two")
        beside.compare(Tables(beside.pages), chosen)

    def test_an_index_that_meets_rows(self):
        chosen = random.Random(212)
        beside = Beside(self, blank_pages(64))
        beside.make(("t", (("a", "number"), ("b", "text"), ("c", "truth")), 1))
        for _ in range(80):
            beside.put("t", (chosen.randrange(100), random_value(chosen, "text"), chosen.choice((True, False))))
        beside.make_index(("i", "t", ("b", "c")))
        beside.make_index(("j", "t", ("c",)))
        beside.compare(beside.tables, chosen)
        for key in range(0, 100, 3):
            beside.drop("t", (key,))
        beside.compare(beside.tables, chosen)

    def test_a_row_in_the_place_of_one(self):
        tables = Tables(blank_pages())
        tables.make(PETS)
        tables.make_index(("by", "pets", ("name",)))
        for name in ("Bo", "Ada", "Bo", "", "~"):
            tables.put("pets", (1, name))
            tables.put("pets", (2, "Bo"))
            self.assertEqual(tables.rows("pets", None, None), [(1, name), (2, "Bo")])
            self.assertEqual(tables.rows_by("by", None, None), sorted([(1, name), (2, "Bo")], key=lambda row: (row[1], row[0])))
            self.assertEqual(tables.rows_by("by", ("Bo",), ("Bp",)), [row for row in [(1, name), (2, "Bo")] if row[1] == "Bo"])

    def test_a_row_put_again_changes_no_page(self):
        pages = blank_pages()
        tables = Tables(pages)
        tables.make(PETS)
        tables.put("pets", (1, "Bo"))
        state = pages.whole_state()
        tables.put("pets", (1, "Bo"))
        self.assertEqual(pages.whole_state(), state)

    def test_bounds(self):
        tables = Tables(blank_pages())
        tables.make(("t", (("a", "number"), ("b", "text"), ("c", "truth")), 2))
        rows = [(a, b, a > b.count("x")) for a in (1, 2, 3) for b in ("", "x", "xx")]
        for row in rows:
            tables.put("t", row)
        for low, high, right in [
            (None, None, rows), ((), None, rows), (None, (), []), ((), (), []), ((2,), None, rows[3:]), (None, (2,), rows[:3]),
            ((2,), (3,), rows[3:6]), ((2, "x"), None, rows[4:]), (None, (2, "x"), rows[:4]), ((2,), (2, ""), []), ((2,), (2, "x"), rows[3:4]),
            ((2, "x"), (2,), []), ((3,), (1,), []), ((2, "x "), (3, "x"), rows[5:7]), ((4,), None, []), ((-1000000,), (1000000,), rows),
        ]:
            self.assertEqual(tables.rows("t", low, high), right, (low, high))

    def test_bounds_of_an_index(self):
        tables = Tables(blank_pages())
        tables.make(("t", (("a", "number"), ("b", "number"), ("c", "truth")), 1))
        tables.make_index(("i", "t", ("c", "b")))
        rows = [(1, 9, True), (2, 8, False), (3, 9, False), (4, 7, True), (5, 9, True)]
        for row in rows:
            tables.put("t", row)
        order = [rows[1], rows[2], rows[3], rows[0], rows[4]]
        for low, high, right in [
            (None, None, order), ((), (), []), ((), None, order), ((True,), None, order[2:]), (None, (True,), order[:2]), ((False,), (False, 9), order[:1]),
            ((True, 8), None, order[3:]), ((True, 9), (True, 10), order[3:]), ((False, 9), (True, 9), order[1:3]), ((True,), (False,), []),
        ]:
            self.assertEqual(tables.rows_by("i", low, high), right, (low, high))

    def test_lists_of_their_own(self):
        tables = Tables(blank_pages())
        tables.make(PETS)
        tables.make_index(("by", "pets", ("name",)))
        tables.make_guard(("g", "pets", ("name",), None))
        tables.put("pets", (1, "Bo"))
        for method, rest in [("schemas", ()), ("indexes", ()), ("guards", ()), ("rows", ("pets", None, None)), ("rows_by", ("by", None, None))]:
            first = getattr(tables, method)(*rest)
            kept = list(first)
            first.append(None)
            self.assertEqual(getattr(tables, method)(*rest), kept)


class Catalogues(unittest.TestCase):
    def test_page_0(self):
        pages = PageSet(((), (1,), ()), (2,))
        tables = Tables(pages)
        self.assertEqual((pages.get(0), pages.get(1), pages.free), ((0, 0), (1,), (2,)))
        self.assertEqual((tables.schemas(), tables.indexes(), tables.guards()), ([], [], []))
        pages = PageSet(((),) * 3, (0, 1, 2))
        tables = Tables(pages)
        self.assertEqual((pages.get(0), pages.free), ((0, 0), (1, 2)))
        tables.make(PETS)
        tables.put("pets", (1, "Bo"))
        self.assertEqual((tables.rows("pets", None, None), Tables(pages).schemas()), ([(1, "Bo")], [PETS]))

    def test_a_catalogue_that_is_there(self):
        pages = blank_pages()
        tables = Tables(pages)
        tables.make(PETS)
        before = seen(pages)
        again = Tables(pages)
        self.assertEqual(seen(pages), before)
        again.put("pets", (7, "x"))
        self.assertEqual(tables.get("pets", (7,)), (7, "x"))
        again.make(("q", (("a", "truth"),), 1))
        self.assertEqual(tables.schemas(), [PETS, ("q", (("a", "truth"),), 1)])

    def test_read_from_a_state(self):
        pages = blank_pages()
        tables = Tables(pages)
        tables.make(PETS)
        tables.make_index(("by", "pets", ("name",)))
        tables.make_guard(("g", "pets", ("id",), "pets"))
        for at in range(30):
            tables.put("pets", (at, "abc"[at % 3]))
        later = Tables(PageSet(pages.whole_state(), pages.free))
        self.assertEqual((later.schemas(), later.indexes(), later.guards()), (tables.schemas(), tables.indexes(), tables.guards()))
        self.assertEqual(later.rows_by("by", ("b",), ("c",)), [(at, "b") for at in range(1, 30, 3)])

    def test_the_longest_names_and_the_most_columns(self):
        long = ["abcdefgh", "bbbbbbbb", "zzzzzzzz", "zzzzzzza", "azazazaz", "hgfedcba", "a", "aa", "aaa", "b"]
        tables = Tables(blank_pages(64))
        schemas = [(name, tuple((one, kind) for one, kind in zip(long[at:], ("number", "truth", "truth", "text", "number"))), 1 + at)
                   for at, name in enumerate(long[:5])]
        for schema in schemas:
            tables.make(schema)
        indexes = [(name, "abcdefgh", ("zzzzzzzz", "abcdefgh", "bbbbbbbb")) for name in long[5:]]
        for index in indexes:
            tables.make_index(index)
        guards = [("gggggggg", "abcdefgh", ("zzzzzzza", "zzzzzzzz", "abcdefgh"), None), ("g", "bbbbbbbb", ("bbbbbbbb",), "abcdefgh")]
        for guard in guards:
            tables.make_guard(guard)
        self.assertEqual((tables.schemas(), tables.indexes(), tables.guards()), (sorted(schemas), sorted(indexes), sorted(guards)))

    def test_names_rise_by_the_alphabet(self):
        tables = Tables(blank_pages(64))
        names = ["b", "a", "ab", "aa", "ba", "z", "abc", "abcdefgh", "aaaaaaaa"]
        for name in names:
            tables.make((name, (("k", "truth"),), 1))
        self.assertEqual([schema[0] for schema in tables.schemas()], sorted(names))
        for name in names[::2]:
            tables.remove(name)
        self.assertEqual([schema[0] for schema in tables.schemas()], sorted(names[1::2]))


class Removing(unittest.TestCase):
    def setUp(self):
        self.pages = blank_pages(64)
        self.tables = Tables(self.pages)
        for name in ("one", "two"):
            self.tables.make((name, (("a", "number"), ("b", "number")), 1))
            self.tables.make_index((name + "i", name, ("b",)))
            self.tables.make_index((name + "j", name, ("b", "a")))
            for at in range(40):
                self.tables.put(name, (at, at % 3))
        self.guards = [("g", "one", ("a",), "two"), ("h", "two", ("b",), "one"), ("i", "one", ("b",), None), ("j", "two", ("b",), "two")]
        for guard in self.guards:
            self.tables.make_guard(guard)

    def test_a_table(self):
        self.tables.remove("one")
        self.assertEqual([schema[0] for schema in self.tables.schemas()], ["two"])
        self.assertEqual([index[0] for index in self.tables.indexes()], ["twoi", "twoj"])
        self.assertEqual(self.tables.guards(), [self.guards[3]])
        self.assertEqual(self.tables.rows("two", None, None), [(at, at % 3) for at in range(40)])
        self.assertEqual(self.tables.rows_by("twoi", (2,), None), [(at, 2) for at in range(2, 40, 3)])
        for name in ("one", "onei", "onej", "g", "h", "i"):
            self.assertEqual(told(self.tables.remove, name), bad("NoTable", name=name))
        self.tables.remove("two")
        self.assertEqual(self.pages.free, tuple(range(1, 64)))
        self.assertEqual((self.tables.schemas(), self.tables.indexes(), self.tables.guards()), ([], [], []))

    def test_an_index_and_a_guard(self):
        free = len(self.pages.free)
        self.tables.remove("onei")
        self.assertGreater(len(self.pages.free), free)
        self.assertEqual([index[0] for index in self.tables.indexes()], ["onej", "twoi", "twoj"])
        self.assertEqual(told(self.tables.rows_by, "onei", None, None), bad("NoTable", name="onei"))
        self.tables.put("one", (100, 1))
        self.assertEqual(len(self.tables.rows_by("onej", (1,), (2,))), 14)
        self.tables.remove("h")
        self.assertEqual([guard[0] for guard in self.tables.guards()], ["g", "i", "j"])

    def test_a_name_that_serves_again(self):
        self.tables.remove("one")
        self.tables.make(("onei", (("x", "number"), ("y", "text")), 1))
        self.tables.make_index(("one", "onei", ("y",)))
        self.tables.put("onei", (5, ""))
        self.assertEqual(self.tables.rows_by("one", None, None), [(5, "")])


class Rooms(unittest.TestCase):
    def test_no_page_for_a_table(self):
        pages = PageSet(((),), ())
        tables = Tables(pages)
        before = seen(pages)
        self.assertEqual(told(tables.make, PETS), bad("NoRoom"))
        self.assertEqual(seen(pages), before)
        self.assertEqual(tables.schemas(), [])

    def test_no_page_for_an_index(self):
        pages = PageSet(((), ()), (1,))
        tables = Tables(pages)
        tables.make(PETS)
        tables.put("pets", (1, "Bo"))
        before = seen(pages)
        self.assertEqual(told(tables.make_index, ("by", "pets", ("name",))), bad("NoRoom"))
        self.assertEqual(seen(pages), before)
        self.assertEqual((tables.schemas(), tables.indexes()), ([PETS], []))

    def test_no_page_for_all_of_an_index(self):
        pages = blank_pages(13)
        tables = Tables(pages)
        tables.make(("t", (("a", "number"), ("b", "text")), 1))
        for at in range(40):
            tables.put("t", (at, "abcdefghij"[at % 10] * 10))
        before = seen(pages)
        self.assertEqual(told(tables.make_index, ("i", "t", ("b",))), bad("NoRoom"))
        self.assertEqual(seen(pages), before)
        self.assertEqual(len(tables.rows("t", None, None)), 40)

    def test_a_put_that_has_no_room_in_an_index(self):
        for many in (4, 5, 6, 7):
            beside = Beside(self, blank_pages(many))
            beside.make(("t", (("a", "number"), ("b", "text")), 1))
            beside.make_index(("i", "t", ("b",)))
            beside.make_index(("j", "t", ("b", "a")))
            if "j" not in beside.indexes:
                continue
            chosen = random.Random(many)
            for _ in range(80):
                beside.put("t", (chosen.randrange(60), chosen.choice("abc") * chosen.randint(0, 10)))
                beside.compare(beside.tables, chosen)
            self.assertGreater(beside.refused, 0)

    def test_a_catalogue_that_is_full(self):
        beside = Beside(self, PageSet(((),) * 3, (1, 2)))
        beside.make(("a", (("abcdefgh", "number"), ("b", "number")), 1))
        for at in range(20):
            beside.make_guard(("g" * 7 + "abcdefghijklmnopqrst"[at], "a", ("abcdefgh", "b"), None))
        self.assertGreater(beside.refused, 0)
        beside.compare(beside.tables, random.Random(1))

    def test_a_catalogue_that_has_room_for_a_part_of_a_guard(self):
        long = ("aaaaaaaa", "bbbbbbbb", "cccccccc")
        refused = 0
        for many in range(30):
            beside = Beside(self, PageSet(((),) * 2, (1,)))
            beside.make(("a", tuple((name, "truth") for name in long), 1))
            beside.make_guard(("g" * (1 + many % 8), "a", long[:1 + many // 8 % 3], None))
            beside.make_guard(("h" * (1 + many % 8), "a", long, None))
            refused += beside.refused
            beside.compare(beside.tables, random.Random(many))
        self.assertGreater(refused, 0)


class WrongSchemas(unittest.TestCase):
    def setUp(self):
        self.pages = blank_pages()
        self.tables = Tables(self.pages)
        self.tables.make(("t", (("a", "number"), ("b", "text"), ("c", "truth")), 1))
        self.tables.make(("u", (("x", "text"), ("y", "number")), 2))
        self.tables.make_index(("i", "t", ("b",)))
        self.tables.make_guard(("g", "t", ("b", "a"), "u"))
        self.before = seen(self.pages)

    def tearDown(self):
        self.assertEqual(seen(self.pages), self.before)

    def wrong_schemas(self):
        column = ("a", "number")
        wrong = [*ANYTHING, ("t",), ("n", (column,)), ("n", (column,), 1, 1), ["n", (column,), 1]]
        wrong += [(name, (column,), 1) for name in BAD_NAMES]
        wrong += [("n", ((name, "number"),), 1) for name in BAD_NAMES]
        wrong += [("n", columns, 1) for columns in [*NO_TUPLES, (), (column,) * 2, tuple((name, "truth") for name in "abcdef"), [column]]]
        wrong += [("n", (one,), 1) for one in [*NO_TUPLES, (), ("a",), ("a", "number", 1), ["a", "number"], ("number", "a", 1)]]
        wrong += [("n", (("a", kind),), 1) for kind in [*ANYTHING, "Number", "bool", "", None, ("number",), ["text"], "a"]]
        wrong += [("n", (column, ("b", "truth")), many) for many in [*NO_INTEGERS, 0, -1, 3, 10 ** 30]]
        text, number, truth = (("text",), ("number",), ("truth",))
        for kinds in [text * 2, number * 4 + text, text + number * 3 + truth]:
            named = tuple((name, kind) for name, kind in zip("abcde", kinds))
            wrong += [("n", named, len(named)), ("n", (("z", "truth"), *named)[:5], 1)] if len(named) < 5 else [("n", named, len(named))]
        wrong += [("n", (("a", "truth"), ("b", "text"), ("c", "text")), 1), ("n", (("a", "text"), ("b", "text")), 2)]
        return wrong

    def test_schemas(self):
        for schema in self.wrong_schemas():
            self.assertEqual(told(self.tables.make, schema), bad("BadSchema"), schema)

    def test_bytes_at_the_limit(self):
        for columns, many in [
            ((("a", "text"), ("b", "number"), ("c", "number"), ("d", "number")), 4), ((("a", "text"), ("b", "number")), 1),
            ((("a", "text"), ("b", "number"), ("c", "number"), ("d", "number"), ("e", "truth")), 4),
            ((("e", "truth"), ("a", "text"), ("b", "number"), ("c", "number"), ("d", "number")), 1),
            ((("a", "text"), ("b", "text")), 1), (tuple((name, "number") for name in "abcde"), 5),
        ]:
            tables = Tables(blank_pages())
            tables.make(("n", columns, many))
            chosen = random.Random(5)
            rows = [tuple({"text": "~" * 10, "number": 1000000, "truth": True}[kind] for _, kind in columns)]
            rows += [tuple(random_value(chosen, kind) for _, kind in columns) for _ in range(20)]
            for row in rows:
                tables.put("n", row)
                self.assertEqual(tables.get("n", row[:many]), row)
        too_wide = (("a", "text"), ("b", "number"), ("c", "number"), ("d", "number"), ("e", "truth"))
        self.assertEqual(told(self.tables.make, ("n", too_wide, 5)), bad("BadSchema"))

    def test_indexes(self):
        wrong = [*ANYTHING, ("n", "t"), ("n", "t", ("b",), None), ["n", "t", ("b",)]]
        wrong += [(name, "t", ("b",)) for name in BAD_NAMES] + [("n", name, ("b",)) for name in BAD_NAMES]
        wrong += [("n", "t", names) for names in [*NO_TUPLES, (), ("a", "a"), ("a", "b", "a"), ("a", "b", "c", "d"), ["b"], ("b", None)]]
        wrong += [("n", "t", (name,)) for name in BAD_NAMES]
        for index in wrong:
            self.assertEqual(told(self.tables.make_index, index), bad("BadSchema"), index)

    def test_no_more_than_three_columns(self):
        tables = Tables(blank_pages())
        names = ("a", "b", "c", "d")
        tables.make(("n", tuple((name, "truth") for name in names), 1))
        before = seen(tables.pages)
        self.assertEqual(told(tables.make_index, ("i", "n", names)), bad("BadSchema"))
        self.assertEqual(told(tables.make_guard, ("i", "n", names, None)), bad("BadSchema"))
        self.assertEqual(seen(tables.pages), before)
        tables.make_index(("i", "n", names[1:]))
        tables.make_guard(("j", "n", names[1:], None))

    def test_indexes_that_cannot_stand(self):
        for index in [("n", "t", ("x",)), ("n", "t", ("b", "z")), ("n", "u", ("x",)), ("n", "u", ("y", "x"))]:
            self.assertEqual(told(self.tables.make_index, index), bad("BadSchema"), index)
            self.assertEqual(told(self.tables.make_index, ("t", *index[1:])), bad("BadSchema"))

    def test_bytes_of_an_index_at_the_limit(self):
        tables = Tables(blank_pages())
        tables.make(("n", (("a", "number"), ("b", "number"), ("c", "text"), ("d", "number"), ("e", "number")), 2))
        # The key has 6 bytes, so there are 14 left.
        tables.make_index(("o", "n", ("c", "d")))
        tables.make_index(("p", "n", ("c", "a")))
        for names in [("c", "d", "e"), ("c", "a", "b")]:
            self.assertEqual(told(tables.make_index, ("q", "n", names)), bad("BadSchema"))
        row = (1000000, -1000000, "~" * 10, 1000000, 0)
        tables.put("n", row)
        self.assertEqual((tables.rows_by("o", None, None), tables.rows_by("p", ("~" * 10, 1000000), None)), ([row], [row]))

    def test_guards(self):
        wrong = [*ANYTHING, ("n", "t", ("b",)), ("n", "t", ("b",), None, None), ["n", "t", ("b",), None]]
        wrong += [(name, "t", ("b",), None) for name in BAD_NAMES] + [("n", name, ("b",), None) for name in BAD_NAMES]
        wrong += [("n", "t", ("b",), name) for name in BAD_NAMES if name is not None]
        wrong += [("n", "t", names, None) for names in [*NO_TUPLES, (), ("a", "a"), ("a", "b", "c", "d"), ["b"], ("b", 5)]]
        wrong += [("n", "t", (name,), None) for name in BAD_NAMES]
        for guard in wrong:
            self.assertEqual(told(self.tables.make_guard, guard), bad("BadSchema"), guard)

    def test_guards_that_cannot_stand(self):
        for guard in [
            ("n", "t", ("x",), None), ("n", "t", ("a", "z"), None), ("n", "t", ("b",), "t"), ("n", "t", ("a", "b"), "u"), ("n", "t", ("b",), "u"),
            ("n", "u", ("x", "y"), "t"), ("n", "t", ("a", "b", "c"), "u"), ("n", "t", ("z",), "t"),
        ]:
            self.assertEqual(told(self.tables.make_guard, guard), bad("BadSchema"), guard)
            self.assertEqual(told(self.tables.make_guard, ("t", *guard[1:])), bad("BadSchema"))

    def test_no_table_comes_behind_the_form_and_ahead_of_the_rest(self):
        self.assertEqual(told(self.tables.make_index, ("i", "no", ("zz",))), bad("NoTable", name="no"))
        self.assertEqual(told(self.tables.make_index, ("i", "i", ("b",))), bad("NoTable", name="i"))
        self.assertEqual(told(self.tables.make_index, ("i", "no", ())), bad("BadSchema"))
        self.assertEqual(told(self.tables.make_guard, ("i", "no", ("zz",), "not")), bad("NoTable", name="no"))
        self.assertEqual(told(self.tables.make_guard, ("i", "t", ("zz",), "not")), bad("NoTable", name="not"))
        self.assertEqual(told(self.tables.make_guard, ("i", "g", ("zz",), "t")), bad("NoTable", name="g"))
        self.assertEqual(told(self.tables.make_guard, ("i", "no", ("zz",), 5)), bad("BadSchema"))

    def test_names_that_are_taken(self):
        for name in ("t", "u", "i", "g"):
            self.assertEqual(told(self.tables.make, (name, (("a", "number"),), 1)), bad("Taken", name=name))
            self.assertEqual(told(self.tables.make_index, (name, "t", ("c",))), bad("Taken", name=name))
            self.assertEqual(told(self.tables.make_guard, (name, "t", ("c",), None)), bad("Taken", name=name))

    def test_taken_comes_ahead_of_no_room(self):
        pages = PageSet(((), ()), (1,))
        tables = Tables(pages)
        tables.make(PETS)
        self.assertEqual(told(tables.make, PETS), bad("Taken", name="pets"))
        self.assertEqual(told(tables.make_index, ("pets", "pets", ("name",))), bad("Taken", name="pets"))
        self.assertEqual(told(tables.make, ("pet", *PETS[1:])), bad("NoRoom"))

    def test_guards_of_any_width_and_of_the_same_table(self):
        tables = Tables(blank_pages())
        tables.make(("n", (("a", "text"), ("b", "text"), ("c", "number")), 1))
        tables.make(("m", (("a", "text"), ("b", "number")), 2))
        guards = [("g", "n", ("a", "b"), None), ("h", "n", ("b",), "n"), ("i", "n", ("b", "c"), "m"), ("j", "n", ("a", "c"), "m")]
        for guard in guards:
            tables.make_guard(guard)
        self.assertEqual(tables.guards(), guards)

    def test_rows_need_not_keep_a_guard(self):
        tables = Tables(blank_pages())
        tables.make(("n", (("a", "number"), ("b", "number")), 1))
        tables.put("n", (1, 5))
        tables.put("n", (2, 5))
        tables.make_guard(("g", "n", ("b",), None))
        tables.make_guard(("h", "n", ("b",), "n"))
        tables.put("n", (3, 5))
        self.assertEqual(len(tables.rows("n", None, None)), 3)


class WrongValues(unittest.TestCase):
    def setUp(self):
        self.pages = blank_pages()
        self.tables = Tables(self.pages)
        self.tables.make(("t", (("a", "number"), ("b", "text"), ("c", "truth")), 2))
        self.tables.make_index(("i", "t", ("c", "a")))
        self.tables.make_guard(("g", "t", ("b",), None))
        self.tables.put("t", (1, "x", True))
        self.before = seen(self.pages)

    def tearDown(self):
        self.assertEqual(seen(self.pages), self.before)

    def calls(self):
        """Each call with the arguments behind the name, all of them wrong."""
        tables = self.tables
        return [(tables.remove, ()), (tables.put, (None,)), (tables.get, (None,)), (tables.drop, (None,)), (tables.rows, (5, 5)),
                (tables.rows_by, (5, 5))]

    def test_names(self):
        for call, rest in self.calls():
            for name in BAD_NAMES:
                self.assertEqual(told(call, name, *rest), bad("BadName"), name)
            for name in ("no", "tt", "abcdefgh", "key"):
                self.assertEqual(told(call, name, *rest), bad("NoTable", name=name))

    def test_names_of_other_things(self):
        for call, rest in self.calls()[1:5]:
            for name in ("i", "g"):
                self.assertEqual(told(call, name, *rest), bad("NoTable", name=name))
        for name in ("t", "g"):
            self.assertEqual(told(self.tables.rows_by, name, None, None), bad("NoTable", name=name))

    def test_rows(self):
        wrong = [*NO_TUPLES, (), (1, "x"), (1, "x", True, 1), [1, "x", True], ("x", 1, True), ((1, "x", True),)]
        wrong += [(value, "x", True) for value in NO_NUMBERS]
        wrong += [(1, value, True) for value in NO_TEXTS]
        wrong += [(1, "x", value) for value in NO_TRUTHS]
        for row in wrong:
            self.assertEqual(told(self.tables.put, "t", row), bad("BadRow"), row)

    def wrong_keys(self):
        wrong = [value for value in NO_TUPLES if value is not None] + [("x",), (1, "x", True), (1, 1), ("x", 1), [1, "x"], (True,), ((1, "x"),)]
        return wrong + [(value,) for value in NO_NUMBERS] + [(1, value) for value in NO_TEXTS]

    def test_keys(self):
        for key in [*self.wrong_keys(), None, (), (1,)]:
            self.assertEqual(told(self.tables.get, "t", key), bad("BadKey"), key)
            self.assertEqual(told(self.tables.drop, "t", key), bad("BadKey"))

    def test_bounds(self):
        for key in self.wrong_keys():
            self.assertEqual(told(self.tables.rows, "t", key, None), bad("BadKey"), key)
            self.assertEqual(told(self.tables.rows, "t", None, key), bad("BadKey"))
            self.assertEqual(told(self.tables.rows, "t", (1,), key), bad("BadKey"))
        wrong = [value for value in NO_TUPLES if value is not None] + [(1,), (True, True), (True, "x"), (True, 1, "x"), ("x",), [True]]
        for key in wrong + [(value,) for value in NO_TRUTHS] + [(True, value) for value in NO_NUMBERS]:
            self.assertEqual(told(self.tables.rows_by, "i", key, None), bad("BadKey"), key)
            self.assertEqual(told(self.tables.rows_by, "i", None, key), bad("BadKey"))
            self.assertEqual(told(self.tables.rows_by, "i", (False, 0), key), bad("BadKey"))

    def test_arguments_are_not_modified(self):
        for value in [[1, "x"], {"a": [1]}, [("n", [["a", "number"]], 1)]]:
            kept = copy.deepcopy(value)
            for method, rest in [("make", ()), ("make_index", ()), ("make_guard", ()), ("remove", ())]:
                told(getattr(self.tables, method), value, *rest)
            for method in ("put", "get", "drop"):
                told(getattr(self.tables, method), "t", value)
            told(self.tables.rows, "t", value, value)
            told(self.tables.rows_by, "i", value, value)
            self.assertEqual(value, kept)


if __name__ == "__main__":
    unittest.main()
