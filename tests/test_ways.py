import random
import unittest

from cutledger.pagesets import PageSet
from cutledger.questions import statement_of
from cutledger.tables import Tables
from cutledger.vacuum import free_pages
from cutledger.ways import way_to
from cutledger.works import Base
from helpers import bad, told
from test_tables import BAD_NAMES, blank_pages

SIGNS = "".join(chr(code) for code in range(32, 127) if chr(code) != "%")
LAST = 1000000


def test_of(text):
    """The test that a text tells, None for a void one."""
    return statement_of("drop from t" + (" where " + text if text else ""))[2]


def tables_with(schema, *indexes):
    tables = Tables(blank_pages(64))
    tables.make(schema)
    for index in indexes:
        tables.make_index(index)
    return tables


class Examples(unittest.TestCase):
    def test_examples(self):
        tables = Tables(PageSet(((),) * 8, (1, 2, 3, 4, 5, 6, 7)))
        tables.make(("pets", (("id", "number"), ("name", "text")), 1))
        self.assertEqual(
            [way_to(tables, "pets", None), way_to(tables, "pets", ("=", ("column", None, "id"), ("value", 2)))], [("all",), ("key", (2,), (3,))])


class Ways(unittest.TestCase):
    SCHEMA = ("t", (("a", "number"), ("b", "text"), ("c", "truth"), ("d", "number")), 3)

    def setUp(self):
        self.tables = tables_with(self.SCHEMA)

    def ways(self, rows):
        for text, way in rows:
            self.assertEqual(repr(way_to(self.tables, "t", test_of(text))), repr(way), text)

    def test_settled_columns_of_the_key(self):
        self.ways([
            ("", ("all",)), ("d = 1", ("all",)), ("b = 'x'", ("all",)), ("c = true", ("all",)), ("a = 1", ("key", (1,), (2,))),
            ("a = 1 and b = 'x'", ("key", (1, "x"), (1, "x "))), ("b = 'x' and a = 1", ("key", (1, "x"), (1, "x "))),
            ("a = 1 and c = true", ("key", (1,), (2,))), ("a = 1 and b = 'x' and c = false", ("key", (1, "x", False), (1, "x", True))),
            ("a = 1 and b = 'x' and c = true", ("key", (1, "x", True), (1, "x "))), ("a = 1 and b = 'x' and c = true and d = 2", ("key", (1, "x", True), (1, "x "))),
            ("b = 'x' and c = true", ("all",)), ("a = -1000000", ("key", (-LAST,), (1 - LAST,))),
        ])

    def test_bounds_of_the_key(self):
        self.ways([
            ("a < 5", ("key", (), (5,))), ("a <= 5", ("key", (), (6,))), ("a > 5", ("key", (6,), None)), ("a >= 5", ("key", (5,), None)),
            ("a > 2 and a < 7", ("key", (3,), (7,))), ("a >= 2 and a <= 7", ("key", (2,), (8,))), ("a > 7 and a < 2", ("key", (8,), (2,))),
            ("a > 2 and a >= 3 and a > 1", ("key", (3,), None)), ("a < 9 and a <= 7 and a < 8", ("key", (), (8,))), ("a <= 7 and a < 8", ("key", (), (8,))),
            ("a = 1 and b < 'x'", ("key", (1,), (1, "x"))), ("a = 1 and b <= 'x'", ("key", (1,), (1, "x "))),
            ("a = 1 and b > 'x'", ("key", (1, "x "), (2,))), ("a = 1 and b >= 'x'", ("key", (1, "x"), (2,))),
            ("a = 1 and b > 'm' and b < 'x'", ("key", (1, "m "), (1, "x"))),
            ("a = 1 and b = 'x' and c < true", ("key", (1, "x"), (1, "x", True))), ("a = 1 and b = 'x' and c >= true", ("key", (1, "x", True), (1, "x "))),
            ("a = 1 and b = 'x' and c > false", ("key", (1, "x", True), (1, "x "))), ("a = 1 and b = 'x' and c <= false", ("key", (1, "x"), (1, "x", True))),
            ("a < 5 and b = 'x'", ("key", (), (5,))), ("a > 5 and b < 'x'", ("key", (6,), None)), ("a = 1 and c > false", ("key", (1,), (2,))),
            ("a = 3 and a > 5 and a < 2", ("key", (3,), (4,))),
        ])

    def test_either_side(self):
        self.ways([
            ("1 = a", ("key", (1,), (2,))), ("5 > a", ("key", (), (5,))), ("5 >= a", ("key", (), (6,))), ("5 < a", ("key", (6,), None)),
            ("5 <= a", ("key", (5,), None)), ("2 < a and 7 > a", ("key", (3,), (7,))), ("1 = a and 'x' <= b", ("key", (1, "x"), (2,))),
        ])

    def test_the_first_of_more_equal_ones(self):
        self.ways([("a = 1 and a = 2", ("key", (1,), (2,))), ("a = 2 and 1 = a", ("key", (2,), (3,))), ("(a = 3 and a = 2) and a = 1", ("key", (3,), (4,)))])

    def test_what_does_not_count(self):
        self.ways([
            ("a <> 1", ("all",)), ("not a = 1", ("all",)), ("a = 1 or a = 2", ("all",)), ("(a = 1 or a = 1)", ("all",)), ("not not a = 1", ("all",)),
            ("a = d", ("all",)), ("a = a", ("all",)), ("1 = 1", ("all",)), ("a = 1 or b = 'x' and c = true", ("all",)),
            ("(a = 1 or d = 2) and a < 5", ("key", (), (5,))), ("not a = 1 and a > 5", ("key", (6,), None)), ("a <> 1 and d = 1", ("all",)),
            ("u.a = 1", ("all",)), ("t.a = 1", ("key", (1,), (2,))), ("u.a = 1 and a < 3", ("key", (), (3,))), ("e = 1", ("all",)),
            ("a = 1 and (b = 'x' and (c = true and d = 1))", ("key", (1, "x", True), (1, "x "))), ("a = 'x'", ("all",)), ("a = true", ("all",)),
            ("b = 1 and a = 2", ("key", (2,), (3,))),
        ])

    def test_next_values_at_the_ends_of_kinds(self):
        last = "~" * 10
        self.ways([
            ("a = 1000000", ("key", (LAST,), None)), ("a >= 1000000", ("key", (LAST,), None)), ("a > 999999", ("key", (LAST,), None)),
            ("a > 1000000", ("all",)), ("a <= 1000000", ("all",)), ("a <= 999999", ("key", (), (LAST,))), ("a < -1000000", ("key", (), (-LAST,))),
            ("a > 1000000 and a > 5", ("key", (6,), None)), ("a <= 1000000 and a <= 5", ("key", (), (6,))), ("a <= 1000000 and a > 5", ("key", (6,), None)),
            (f"a = 1 and b = '{last}'", ("key", (1, last), (2,))), (f"a = 1 and b > '{last}'", ("key", (2,), (2,))),
            (f"a = 1 and b <= '{last}'", ("key", (1,), (2,))), (f"a = 1000000 and b > '{last}'", ("key", (LAST,), None)),
            (f"a = 1000000 and b <= '{last}'", ("key", (LAST,), None)), (f"a = 1000000 and b = '{last}'", ("key", (LAST, last), None)),
            (f"a = 1000000 and b = '{last}' and c = true", ("key", (LAST, last, True), None)),
            (f"a = 1000000 and b = '{last}' and c = false", ("key", (LAST, last, False), (LAST, last, True))),
            (f"a = 1 and b = '{last}' and c = true", ("key", (1, last, True), (2,))),
            (f"a = 1 and b = '{last}' and c > true", ("key", (2,), (2,))), ("a = 1 and b = 'x' and c > true", ("key", (1, "x "), (1, "x "))),
            ("a = 1 and b = 'x' and c <= true", ("key", (1, "x"), (1, "x "))), ("a = 1 and b > '' and b > 'x' and b <= 'a'", ("key", (1, "x "), (1, "a "))),
        ])

    def test_next_texts(self):
        for text, behind in [
            ("", " "), ("a", "a "), ("aaaaaaaaa", "aaaaaaaaa "), ("aaaaaaaaaa", "aaaaaaaaab"), ("aaaaaaaaa~", "aaaaaaaab"), ("a~~~~~~~~~", "b"),
            ("aaaaaaaaa$", "aaaaaaaaa&"), ("aaaaaaaa$~", "aaaaaaaa&"), ("~~~~~~~~~", "~~~~~~~~~ "), ("}~~~~~~~~~", "~"), ("          ", "         !"),
            ("~", "~ "), ("aaaaaaaaaZ", "aaaaaaaaa["), ("'", "' "),
        ]:
            test = ("and", ("=", ("column", None, "a"), ("value", 1)), ("=", ("column", None, "b"), ("value", text)))
            self.assertEqual(way_to(self.tables, "t", test), ("key", (1, text), (1, behind)))

    def test_the_next_text_is_the_least_greater_one(self):
        tables = tables_with(("t", (("b", "text"),), 1))
        chosen = random.Random(8000)
        for _ in range(500):
            text = "".join(chosen.choice("$& !}~" + SIGNS) for _ in range(chosen.choice((0, 1, 8, 9, 10, 10, 10))))
            way = way_to(tables, "t", ("=", ("column", "t", "b"), ("value", text)))
            behind = way[2][0]
            self.assertTrue(text < behind and len(behind) <= 10)
            for _ in range(20):
                other = text[:chosen.randint(0, len(text))] + "".join(chosen.choice(" ~" + SIGNS) for _ in range(chosen.randint(0, 9)))
                if len(other) <= 10 and other > text:
                    self.assertLessEqual(behind, other)


class Indexes(unittest.TestCase):
    SCHEMA = ("t", (("k", "number"), ("a", "number"), ("b", "truth"), ("c", "text")), 1)

    def setUp(self):
        self.tables = tables_with(self.SCHEMA, ("m", "t", ("a", "b")), ("n", "t", ("a",)), ("f", "t", ("b", "a")), ("z", "t", ("c",)), ("y", "t", ("b", "k", "a")))

    def ways(self, rows):
        for text, way in rows:
            self.assertEqual(repr(way_to(self.tables, "t", test_of(text))), repr(way), text)

    def test_indexes(self):
        self.ways([
            ("k = 1", ("key", (1,), (2,))), ("a = 1", ("by", "m", (1,), (2,))), ("b = true", ("by", "f", (True,), None)), ("b = false", ("by", "f", (False,), (True,))),
            ("c = 'x'", ("by", "z", ("x",), ("x ",))), ("a = 1 and b = true", ("by", "f", (True, 1), (True, 2))),
            ("a = 1 and b > false", ("by", "m", (1, True), (2,))), ("b = false and a < 5", ("by", "f", (False,), (False, 5))),
            ("b = true and a < 5", ("by", "f", (True,), (True, 5))), ("b = true and a > 5", ("by", "f", (True, 6), None)),
            ("a < 5", ("by", "m", (), (5,))), ("c > 'x'", ("by", "z", ("x ",), None)), ("k = 1 and a = 1", ("key", (1,), (2,))),
            ("k < 5 and a = 1", ("by", "m", (1,), (2,))), ("k < 5 and a < 1", ("key", (), (5,))), ("k = 1 and b = true", ("by", "y", (True, 1), (True, 2))),
            ("k = 1 and a = 1 and b = true", ("by", "y", (True, 1, 1), (True, 1, 2))), ("k < 9 and b = true", ("by", "y", (True,), (True, 9))),
            ("k < 9 and a = 2 and b = true", ("by", "f", (True, 2), (True, 3))), ("k = 1 and a = 1 and b < true", ("by", "m", (1,), (1, True))),
            ("a > 1000000", ("all",)), ("a <= 1000000", ("all",)), ("a <> 1", ("all",)), ("a = 1 or k = 1", ("all",)),
        ])

    def test_bounded_ones_count_for_half(self):
        tables = tables_with(("t", (("a", "number"), ("b", "number"), ("c", "number"), ("d", "number")), 2), ("i", "t", ("c", "d")), ("j", "t", ("d",)))
        for text, way in [
            ("a = 1 and c = 1", ("key", (1,), (2,))), ("a = 1 and c = 1 and d < 5", ("by", "i", (1,), (1, 5))), ("a = 1 and b < 3 and c = 1", ("key", (1,), (1, 3))),
            ("a = 1 and b < 3 and c = 1 and d < 5", ("key", (1,), (1, 3))), ("a < 1 and d < 2", ("key", (), (1,))), ("a < 1 and d = 2", ("by", "j", (2,), (3,))),
            ("a = 1 and b < 9 and c = 1 and d = 1", ("by", "i", (1, 1), (1, 2))), ("a = 1 and b = 9 and c = 1 and d = 1", ("key", (1, 9), (1, 10))),
            ("c = 1000000 and d > 1000000", ("by", "i", (LAST,), None)), ("c = 5 and d > 1000000", ("by", "i", (6,), (6,))), ("b = 1 and d < 2", ("by", "j", (), (2,))),
            ("a = 1000000 and b > 1000000 and c = 1 and d <= 1", ("by", "i", (1,), (1, 2))), ("a = 1000000 and b > 1000000 and c = 1", ("key", (LAST,), None)),
        ]:
            self.assertEqual(way_to(tables, "t", test_of(text)), way, text)

    def test_a_work(self):
        base = Base((16, 16))
        work = base.begin()
        work.make(self.SCHEMA)
        work.make_index(("n", "t", ("a",)))
        self.assertEqual(way_to(work, "t", test_of("a = 1")), ("by", "n", (1,), (2,)))
        work.finish()
        reader = base.begin()
        self.assertEqual(way_to(reader, "t", test_of("a = 1")), ("by", "n", (1,), (2,)))
        reader.leave()
        self.assertEqual(told(way_to, reader, "t", None), bad("Ended"))
        self.assertEqual(told(way_to, work, "no", None), bad("Ended"))

    def test_tables_that_are_not_there(self):
        for table in BAD_NAMES:
            self.assertEqual(told(way_to, self.tables, table, None), bad("BadName"))
        for table in ("no", "m", "tt"):
            self.assertEqual(told(way_to, self.tables, table, test_of("a = 1")), bad("NoTable", name=table))

    def test_nothing_is_changed(self):
        before = self.tables.pages.whole_state()
        way_to(self.tables, "t", test_of("a = 1 and b = true"))
        self.assertEqual(self.tables.pages.whole_state(), before)


class Rows(unittest.TestCase):
    """The rows on a way are just those that the settled columns and the bounds of the next one let."""

    KINDS = {"number": [-LAST, -1, 0, 1, 2, LAST - 1, LAST], "text": ["", " ", "a", "a ", "~" * 9, "~" * 10], "truth": [False, True]}

    def compares(self, sign, left, right):
        return {"=": left == right, "<": left < right, "<=": left <= right, ">": left > right, ">=": left >= right}[sign]

    def lets(self, names, parts, row_with):
        """What the parts say of a row along columns: equal ones as long as there are some, then bounds of one column."""
        for name in names:
            equal = [value for column, sign, value in parts if column == name and sign == "="]
            if not equal:
                return all(self.compares(sign, row_with[name], value) for column, sign, value in parts if column == name)
            if row_with[name] != equal[0]:
                return False
        return True

    def test_any_parts(self):
        used = {}
        for seed in range(60):
            chosen = random.Random(8100 + seed)
            kinds = chosen.choice([("number", "truth", "number"), ("text", "truth", "number"), ("truth", "text", "truth"), ("number", "text", "truth")])
            schema = ("t", tuple(zip("abc", kinds)), chosen.randint(1, 2))
            tables = tables_with(schema)
            for index in [("i", "t", ("b",)), ("j", "t", ("b", "a")), ("l", "t", ("c", "b"))]:
                told(tables.make_index, index)
            for _ in range(60):
                told(tables.put, "t", tuple(chosen.choice(self.KINDS[kind]) for kind in kinds))
            rows = tables.rows("t", None, None)
            for _ in range(40):
                parts = []
                for _ in range(chosen.randint(1, 4)):
                    at = chosen.randrange(3)
                    parts.append(("abc"[at], chosen.choice(("=", "=", "<", "<=", ">", ">=")), chosen.choice(self.KINDS[kinds[at]])))
                test = None
                for name, sign, value in parts:
                    part = (sign, ("column", None, name), ("value", value))
                    test = part if test is None else ("and", test, part)
                way = way_to(tables, "t", test)
                used[way[0]] = used.get(way[0], 0) + 1
                names = ["a", "b", "c"][:schema[2]] if way[0] == "key" else {"i": "b", "j": "ba", "l": "cb"}.get(way[1] if len(way) > 1 else "", "")
                right = [row for row in rows if self.lets(names, parts, dict(zip("abc", row)))]
                found = rows if way[0] == "all" else tables.rows("t", *way[1:]) if way[0] == "key" else sorted(tables.rows_by(*way[1:]))
                # A bound beyond the last value of a kind may have no next values, and then does not count.
                if any(sign in (">", "<=") and value in (LAST, "~" * 10) or value is True for _, sign, value in parts):
                    self.assertTrue(set(right) <= set(found))
                else:
                    self.assertEqual(found, right, (parts, way))
        self.assertTrue(all(used.get(word, 0) > 20 for word in ("key", "by", "all")), used)


class Pages(unittest.TestCase):
    def test_tables_behind_a_state(self):
        tables = tables_with(("t", (("a", "number"),), 1))
        state = tables.pages.whole_state()
        again = Tables(PageSet(state, free_pages(state)))
        self.assertEqual(way_to(again, "t", test_of("a = 5")), ("key", (5,), (6,)))


if __name__ == "__main__":
    unittest.main()
