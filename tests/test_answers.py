import copy
import random
import unittest

from cutledger.answers import answered, asked, said
from cutledger.questions import statement_of
from cutledger.questiontexts import statement_text
from cutledger.tables import Tables
from cutledger.works import Base
from helpers import ANYTHING, bad, told
from serial import content
from test_tables import BAD_NAMES, blank_pages

PETS = ("pets", (("id", "number"), ("name", "text"), ("age", "number"), ("tame", "truth")), 1)
VETS = ("vets", (("name", "text"), ("id", "number"), ("free", "truth")), 2)
PET_ROWS = [(1, "Bo", 5, True), (2, "Ada", 5, False), (3, "Cy", 9, True), (4, "Bo", 2, False), (7, "Di", 5, True)]
VET_ROWS = [("Ada", 2, True), ("Bo", 1, False), ("Bo", 9, True), ("Zoe", 5, True)]


def zoo(*more):
    """A base of pets and vets with two indexes."""
    base = Base((40, 40))
    for text in ["make pets (id number key, name text, age number, tame truth)", "make vets (name text key, id number key, free truth)",
                 "index byage on pets (age)", "index byname on pets (name, tame)", "index byid on vets (id)", *more]:
        said(base, text)
    work = base.begin()
    for row in PET_ROWS:
        work.put("pets", row)
    for row in VET_ROWS:
        work.put("vets", row)
    work.finish()
    return base


class Examples(unittest.TestCase):
    def test_examples(self):
        base = Base((8, 8))
        self.assertIsNone(said(base, "make pets (id number key, name text)"))
        self.assertIsNone(said(base, "put pets (1, 'Bo')"))
        self.assertIsNone(said(base, "put pets (2, 'Ada')"))
        self.assertEqual([said(base, "take name from pets by id down"), said(base, "count from pets where id > 1")], [[("Ada",), ("Bo",)], 1])
        self.assertEqual(told(said, Base((8, 8)), "drop from pets"), bad("NoTable", name="pets"))


class Takes(unittest.TestCase):
    def setUp(self):
        self.base = zoo()

    def same(self, text, answer):
        work = self.base.begin()
        self.assertEqual(repr(asked(work, text)), repr(answer), text)
        self.assertEqual(repr(answered(work, statement_of(text), True)), repr(answer))
        self.assertEqual(repr(answered(work, statement_of(text), plain=False)), repr(answer))
        self.assertEqual(work.finish(), self.base.commit)

    def test_columns_and_rows(self):
        self.same("take * from pets", PET_ROWS)
        self.same("take name from pets", [(row[1],) for row in PET_ROWS])
        self.same("take tame, id, pets.id from pets where id > 2", [(True, 3, 3), (False, 4, 4), (True, 7, 7)])
        self.same("take * from vets", VET_ROWS)
        self.same("take * from pets where id = 5", [])
        self.same("take name from pets where id = 3", [("Cy",)])

    def test_orders(self):
        self.same("take id from pets by name", [(2,), (1,), (4,), (3,), (7,)])
        self.same("take id from pets by name down", [(7,), (3,), (1,), (4,), (2,)])
        self.same("take id from pets by age, name", [(4,), (2,), (1,), (7,), (3,)])
        self.same("take id from pets by age down, name down", [(3,), (7,), (1,), (2,), (4,)])
        self.same("take id from pets by tame", [(2,), (4,), (1,), (3,), (7,)])
        self.same("take id from pets by tame down, pets.id down", [(7,), (3,), (1,), (4,), (2,)])
        self.same("take id from pets by age", [(4,), (1,), (2,), (7,), (3,)])
        self.same("take id from pets by age, age down", [(4,), (1,), (2,), (7,), (3,)])

    def test_the_first_ones(self):
        self.same("take id from pets first 0", [])
        self.same("take id from pets first 2", [(1,), (2,)])
        self.same("take id from pets by age down first 2", [(3,), (1,)])
        self.same("take id from pets where tame = true by id down first 1", [(7,)])
        self.same("take id from pets first 1000000", [(1,), (2,), (3,), (4,), (7,)])

    def test_tests(self):
        for test, ids in [
            ("id = 3", [3]), ("id <> 3", [1, 2, 4, 7]), ("id < 3", [1, 2]), ("id <= 3", [1, 2, 3]), ("id > 3", [4, 7]), ("id >= 3", [3, 4, 7]),
            ("3 < id", [4, 7]), ("name = 'Bo'", [1, 4]), ("name < 'Bo'", [2]), ("name >= 'Bo '", [3, 7]), ("tame = true", [1, 3, 7]), ("tame < true", [2, 4]),
            ("id = age", []), ("id < age", [1, 2, 3]), ("age = 5 and tame = true", [1, 7]), ("age = 5 or tame = true", [1, 2, 3, 7]),
            ("not age = 5", [3, 4]), ("not (age = 5 or tame = false)", [3]), ("age = 5 and not tame = true or id = 4", [2, 4]), ("1 = 1", [1, 2, 3, 4, 7]),
            ("'a' = 'b'", []), ("true > false", [1, 2, 3, 4, 7]), ("id >= -1000000 and id <= 1000000", [1, 2, 3, 4, 7]), ("name = 'Bo' and tame = false", [4]),
            ("age = 5 and age = 9", []), ("age > 2 and age < 9 and id > 1", [2, 7]),
        ]:
            self.same("take id from pets where " + test, [(one,) for one in ids])
            self.same("count from pets where " + test, len(ids))

    def test_two_tables(self):
        both = [pet + vet for pet in PET_ROWS for vet in VET_ROWS]
        self.same("take * from pets with vets on name = name", [row for row in both if row[1] == row[4]])
        self.same("take * from vets with pets on id = age", [vet + pet for vet in VET_ROWS for pet in PET_ROWS if vet[1] == pet[2]])
        self.same("take pets.id, vets.id from pets with vets on id = id", [(1, 1), (2, 2)])
        self.same("take id, name, free from pets with vets on tame = free where vets.name = 'Bo' by vets.id down, age",
                  [(1, "Bo", True), (7, "Di", True), (3, "Cy", True), (4, "Bo", False), (2, "Ada", False)])
        self.same("take name from vets with pets on id = id", [("Ada",), ("Bo",)])
        self.same("take pets.name from vets with pets on id = id where id = 2", [("Ada",)])
        self.same("count from pets with vets on tame = free where pets.id < vets.id and vets.id = 9 for pets.age", [(5, 2), (9, 1)])
        self.same("take * from pets with vets on name = name where vets.name = 'no'", [])

    def test_folds(self):
        self.same("count from pets", 5)
        self.same("sum age from pets", 26)
        self.same("least age from pets", 2)
        self.same("most pets.age from pets", 9)
        self.same("least name from pets", "Ada")
        self.same("most name from pets where id < 4", "Cy")
        self.same("least tame from pets", False)
        self.same("most tame from pets", True)
        for word, none in [("count", 0), ("sum age", 0), ("least age", None), ("most age", None)]:
            self.same(word + " from pets where id = 99", none)
            self.same(word + " from pets where id = 99 for name", [])
        self.same("count from pets for age", [(2, 1), (5, 3), (9, 1)])
        self.same("sum id from pets for tame", [(False, 6), (True, 11)])
        self.same("most id from pets for name", [("Ada", 2), ("Bo", 4), ("Cy", 3), ("Di", 7)])
        self.same("least name from pets where age = 5 for tame", [(False, "Ada"), (True, "Bo")])
        self.same("sum vets.id from pets with vets on name = name", 22)

    def test_sums_beyond_a_million(self):
        base = Base((20, 20))
        said(base, "make t (a number key, b number)")
        for at in range(5):
            said(base, f"put t ({at}, 1000000)")
        self.assertEqual(said(base, "sum b from t"), 5000000)
        self.assertEqual(said(base, "sum b from t for b"), [(1000000, 5000000)])

    def test_lists_are_new(self):
        work = self.base.begin()
        for text in ("take * from pets", "take id from pets", "count from pets for age", "take * from pets first 2"):
            first = asked(work, text)
            kept = list(first)
            first.append(None)
            self.assertEqual(asked(work, text), kept)


class Changes(unittest.TestCase):
    def test_the_others_answer_none(self):
        base = Base((20, 20))
        for text in ["make t (a number key, b text)", "index i on t (b)", "guard g on t (b)", "put t (1, 'x')", "put t (1, 'y')", "remove g", "remove i"]:
            self.assertIsNone(said(base, text))
        work = base.begin()
        self.assertEqual(content(work), ([("t", (("a", "number"), ("b", "text")), 1)], [], [], {"t": [(1, "y")]}, {}))
        for statement in [("make", VETS), ("index", ("j", "vets", ("id",))), ("guard", ("h", "vets", ("id",), "t")), ("put", "vets", ("x", 1, True)), ("remove", "t")]:
            self.assertIsNone(answered(work, statement))
        self.assertEqual(content(work), ([VETS], [("j", "vets", ("id",))], [], {"vets": [("x", 1, True)]}, {"j": [("x", 1, True)]}))

    def changed(self, text, answer, rows):
        for plain in (False, True):
            base = zoo()
            work = base.begin()
            self.assertEqual(answered(work, statement_of(text), plain), answer, text)
            self.assertEqual(work.finish(), 7 if rows != PET_ROWS else 6)
            self.assertEqual(base.begin().rows("pets", None, None), rows)
            self.assertEqual(sorted(base.begin().rows_by("byage", None, None)), rows)

    def test_drops(self):
        self.changed("drop from pets", 5, [])
        self.changed("drop from pets where id = 3", 1, [row for row in PET_ROWS if row[0] != 3])
        self.changed("drop from pets where age = 5", 3, [PET_ROWS[2], PET_ROWS[3]])
        self.changed("drop from pets where name = 'Bo' and tame = true", 1, PET_ROWS[1:])
        self.changed("drop from pets where pets.id > 100", 0, PET_ROWS)

    def test_sets(self):
        self.changed("set pets name = 'x'", 5, [(row[0], "x", *row[2:]) for row in PET_ROWS])
        self.changed("set pets age = age + 1 where age = 5", 3, [(*row[:2], row[2] + (row[2] == 5), row[3]) for row in PET_ROWS])
        self.changed("set pets age = id - 10, name = 'y', tame = false where id > 2", 3, PET_ROWS[:2] + [(row[0], "y", row[0] - 10, False) for row in PET_ROWS[2:]])
        self.changed("set pets age = pets.id where tame = true", 3, [(*row[:2], row[0], True) if row[3] else row for row in PET_ROWS])
        self.changed("set pets age = age + 0", 5, PET_ROWS)
        self.changed("set pets age = 3 where id = 99", 0, PET_ROWS)
        self.changed("set pets age = 2 where age = 2", 1, PET_ROWS)

    def test_worths_are_those_ahead_of_the_statement(self):
        base = Base((20, 20))
        said(base, "make t (k number key, a number, b number)")
        said(base, "index i on t (a)")
        for at in range(5):
            said(base, f"put t ({at}, {at}, {10 * at})")
        self.assertEqual(said(base, "set t a = b, b = a"), 5)
        self.assertEqual(said(base, "take * from t"), [(at, 10 * at, at) for at in range(5)])
        self.assertEqual(said(base, "set t a = a + 10 where a < 1000 and a >= 10"), 4)
        self.assertEqual(said(base, "take a from t"), [(0,), (20,), (30,), (40,), (50,)])

    def test_a_set_on_the_way_that_it_changes(self):
        base = zoo()
        self.assertEqual(said(base, "set pets age = age + 1 where age > 3"), 4)
        self.assertEqual(said(base, "take age from pets"), [(6,), (6,), (10,), (2,), (6,)])

    def test_said_is_put_in(self):
        base = zoo()
        self.assertEqual(base.commit, 6)
        said(base, "take * from pets")
        self.assertEqual(base.commit, 6)
        said(base, "put pets (1, 'Bo', 5, true)")
        self.assertEqual(base.commit, 6)
        said(base, "put pets (1, 'Bo', 6, true)")
        self.assertEqual((base.commit, base.begin().get("pets", (1,))), (7, (1, "Bo", 6, True)))

    def test_guards_are_kept(self):
        base = zoo("guard onlyage on pets (name, id)", "guard unlike on vets (id)")
        self.assertEqual(base.commit, 8)
        self.assertEqual(told(said, base, "put vets ('x', 9, true)"), bad("Broken", name="unlike"))
        self.assertIsNone(said(base, "put vets ('x', 10, true)"))

    def test_refused_by_guards(self):
        base = zoo()
        state = base.state
        for text in ("guard g on pets (name)", "guard g on vets (id) in pets"):
            self.assertEqual(told(said, base, text), bad("Broken", name="g"))
        self.assertEqual((base.commit, base.state), (6, state))
        said(base, "drop from vets where id > 2")
        said(base, "guard g on vets (id) in pets")
        self.assertEqual(told(said, base, "put vets ('x', 5, true)"), bad("Broken", name="g"))
        self.assertEqual(told(said, base, "drop from pets where id = 1"), bad("Broken", name="g"))
        self.assertEqual(said(base, "drop from pets where id = 7"), 1)

    def test_what_tables_refuse(self):
        base = zoo()
        for text, error in [
            ("put pets (1)", bad("BadRow")), ("put pets (1, 2, 3, true)", bad("BadRow")), ("put pets ('x', 'y', 5, true)", bad("BadRow")), ("put no (1)", bad("NoTable", name="no")),
            ("put byage (1)", bad("NoTable", name="byage")), ("remove no", bad("NoTable", name="no")), ("make pets (a number key)", bad("Taken", name="pets")),
            ("index i on no (a)", bad("NoTable", name="no")), ("index i on pets (no)", bad("BadSchema")), ("index byage on pets (age)", bad("Taken", name="byage")),
            ("guard g on pets (age) in no", bad("NoTable", name="no")), ("guard g on pets (name) in pets", bad("BadSchema")), ("take * from no", bad("NoTable", name="no")),
            ("take * from byage", bad("NoTable", name="byage")), ("count from no", bad("NoTable", name="no")), ("set no a = 1", bad("NoTable", name="no")),
            ("take * from pets with no on a = b", bad("NoTable", name="no")), ("take * from no with pets on a = b", bad("NoTable", name="no")),
            ("take * from no with nix on a = b", bad("NoTable", name="no")), ("take * from no with no on a = b", bad("NoTable", name="no")),
        ]:
            self.assertEqual(told(said, base, text), error, text)
        self.assertEqual(base.commit, 6)

    def test_errors_of_texts(self):
        base = zoo()
        work = base.begin()
        for one in [each for each in ANYTHING if not isinstance(each, str)]:
            self.assertEqual(told(said, base, one), bad("BadString"))
            self.assertEqual(told(asked, work, one), bad("BadString"))
        self.assertEqual(told(said, base, "take * from pets wher id = 1"), bad("BadWords", at=17))
        self.assertEqual(told(asked, work, ""), bad("BadWords", at=0))


class BadQuestions(unittest.TestCase):
    def setUp(self):
        self.base = zoo()

    def refused(self, statement, error=None):
        for plain in (False, True):
            work = self.base.begin()
            before = content(work)
            self.assertEqual(told(answered, work, statement, plain), error or bad("BadQuestion"), statement)
            self.assertEqual(content(work), before)

    def test_columns_that_are_not_there(self):
        for text in [
            "take no from pets", "take vets.name from pets", "take pets.no from pets", "take no.id from pets", "take * from pets where no = 1",
            "take * from pets where id = 1 and vets.id = 1", "take * from pets by no", "take * from pets by id, vets.id", "count from pets for no", "sum no from pets",
            "least vets.id from pets", "drop from pets where no = 1", "drop from pets where vets.free = true", "set pets no = 1", "set pets age = no", "set pets age = vets.id",
            "set pets age = no + 1", "set pets age = 1 where no = 1", "set pets free = true", "take * from pets with vets on no = id", "take * from pets with vets on id = no",
            "take * from pets with vets on age = age", "take * from pets with vets on free = tame", "take no from pets with vets on id = id",
            "take byage.id from pets", "take pets.free from pets with vets on id = id", "count from pets where not no = 1", "take * from pets where id = 1 or no = 1",
        ]:
            self.refused(statement_of(text))

    def test_unlike_kinds(self):
        for text in [
            "take * from pets where id = 'x'", "take * from pets where name = 1", "take * from pets where tame = 1", "take * from pets where id = true",
            "take * from pets where id = name", "take * from pets where 1 = 'x'", "take * from pets where 1 = true", "take * from pets where true < 'x'",
            "take * from pets where tame = id", "drop from pets where name < 5", "set pets age = 'x'", "set pets age = true", "set pets name = 5", "set pets tame = 1",
            "set pets age = name", "set pets name = id", "set pets name = name + 1", "set pets age = tame + 1", "set pets tame = age + 1", "set pets name = age - 1",
            "take * from pets with vets on id = name", "take * from pets with vets on name = free", "count from pets where id = 1 and (name = 'x' or tame = 'x')",
            "set pets age = 5 where id = 'x'", "take * from pets with vets on id = id where pets.id = vets.name",
        ]:
            self.refused(statement_of(text))

    def test_sums_of_what_is_no_number(self):
        for text in ["sum name from pets", "sum tame from pets", "sum name from pets for id", "sum free from pets with vets on id = id", "sum tame from pets where id = 99"]:
            self.refused(statement_of(text))

    def test_a_table_with_itself(self):
        for text in ["take * from pets with pets on id = id", "count from pets with pets on id = age", "take * from vets with vets on no = no"]:
            self.refused(statement_of(text))

    def test_columns_of_a_key_are_not_set(self):
        for text in ["set pets id = 5", "set pets id = id", "set pets age = 1, id = 5 where id = 99", "set vets name = 'x'", "set vets id = id + 1"]:
            self.refused(statement_of(text))

    def test_numbers_beyond_a_million(self):
        for text in ["set pets age = age + 999996", "set pets age = id + 1000000", "set pets name = 'x', age = age + 1000000"]:
            self.refused(statement_of(text))
        said(self.base, "set pets age = -1 where id = 7")
        self.refused(statement_of("set pets age = age - 1000000"))
        self.assertEqual(said(self.base, "set pets age = age - 999999"), 5)
        self.assertEqual(said(self.base, "least age from pets"), -1000000)
        self.assertEqual(said(self.base, "set pets age = age + 1000000"), 5)
        column = ("column", None, "age")
        for beyond in (1000001, -1000001, 10 ** 30):
            self.refused(("take", None, ("pets",), ("=", column, ("value", beyond)), (), None))
            self.refused(("take", None, ("pets",), ("=", ("value", beyond), ("value", beyond)), (), None))
            self.refused(("set", "pets", (("age", ("value", beyond)),), None))
            self.refused(("set", "pets", (("age", ("+", column, beyond)),), None))
            self.refused(("drop", "pets", ("or", ("=", column, ("value", 1)), ("<", column, ("value", beyond)))))
            self.refused(("put", "pets", (beyond, "x", 1, True)), bad("BadRow"))
        for wrong in ("x" * 11, "100\u00e9", "a%"):
            self.refused(("take", None, ("pets",), ("=", ("column", None, "name"), ("value", wrong)), (), None))

    def test_errors_come_ahead_of_any_change(self):
        base = Base((20, 20))
        said(base, "make t (a number key, b number)")
        for at, b in enumerate((1, 2, 999999, 3, 1000000)):
            said(base, f"put t ({at}, {b})")
        work = base.begin()
        before = content(work)
        self.assertEqual(told(asked, work, "set t b = b + 1"), bad("BadQuestion"))
        self.assertEqual(content(work), before)
        self.assertEqual((work.finish(), base.commit), (6, 6))

    def test_a_set_that_meets_no_room(self):
        base = Base((5, 20))
        said(base, "make t (a number key, b text)")
        work = base.begin()
        for at in range(200):
            if told(work.put, "t", (at, "")) == bad("NoRoom"):
                break
        work.finish()
        work = base.begin()
        self.assertEqual(told(asked, work, "set t b = 'abcdefghij'"), bad("NoRoom"))
        rows = work.rows("t", None, None)
        self.assertEqual(len(rows), at)
        self.assertTrue(all(row[1] in ("", "abcdefghij") for row in rows))

    def test_names_that_are_none(self):
        for name in BAD_NAMES:
            for statement in [("take", None, (name,), None, (), None), ("fold", "count", None, (name,), None, None), ("drop", name, None),
                              ("set", name, (("a", ("value", 1)),), None), ("put", name, (1,)), ("remove", name)]:
                self.refused(statement, bad("BadName"))


def oracle_value(place_of, worth, row):
    if worth[0] == "value":
        return worth[1]
    if worth[0] == "column":
        return row[place_of(worth)]
    return row[place_of(worth[1])] + (worth[2] if worth[0] == "+" else -worth[2])


def oracle_lets(place_of, test, row):
    if test is None:
        return True
    if test[0] == "not":
        return not oracle_lets(place_of, test[1], row)
    if test[0] in ("and", "or"):
        both = [oracle_lets(place_of, one, row) for one in test[1:]]
        return all(both) if test[0] == "and" else any(both)
    left, right = (oracle_value(place_of, one, row) for one in test[1:])
    return {"=": left == right, "<>": left != right, "<": left < right, "<=": left <= right, ">": left > right, ">=": left >= right}[test[0]]


class Oracle:
    """Answers by rows put together and looked at one by one."""

    def __init__(self, work):
        schemas, _, _, self.held, _ = content(work)
        self.schema_with = {schema[0]: schema for schema in schemas}

    def places(self, names):
        columns = [(name, column) for name in names for column, _ in self.schema_with[name][1]]

        def place_of(column):
            return [at for at, (table, name) in enumerate(columns) if name == column[2] and column[1] in (None, table)][0]

        return place_of

    def rows(self, source, test):
        rows = self.held[source[0]]
        place_of = self.places(source[:2])
        if len(source) == 4:
            rows = [row + other for row in rows for other in self.held[source[1]]]
            one, two = (place_of(("column", *pair)) for pair in ((source[0], source[2]), (source[1], source[3])))
            rows = [row for row in rows if row[one] == row[two]]
        return place_of, [row for row in rows if oracle_lets(place_of, test, row)]

    def take(self, columns, source, test, order, first):
        place_of, rows = self.rows(source, test)
        for column, is_down in reversed(order):
            rows = sorted(rows, key=lambda row: row[place_of(column)], reverse=is_down)
        rows = rows[:first]
        return rows if columns is None else [tuple(row[place_of(column)] for column in columns) for row in rows]

    def fold(self, word, column, source, test, group):
        place_of, rows = self.rows(source, test)

        def folded(few):
            values = [row[place_of(column)] for row in few] if column else []
            if word == "count":
                return len(few)
            return sum(values) if word == "sum" else None if not values else min(values) if word == "least" else max(values)

        if group is None:
            return folded(rows)
        keys = sorted({row[place_of(group)] for row in rows})
        return [(key, folded([row for row in rows if row[place_of(group)] == key])) for key in keys]


class AnyStatements(unittest.TestCase):
    """Two tables with indexes, and statements of any form upon them."""

    VALUES = {"number": [-3, 0, 1, 2, 3, 4, 9, 1000000, -1000000], "text": ["", "a", "b", "ab", "~~~~~~~~~~"], "truth": [False, True]}

    def make(self, chosen):
        base = Base((64, 64))
        work = base.begin()
        self.schemas = []
        for name in ("t", "u"):
            kinds = chosen.sample(["number", "text", "number", "truth"], chosen.randint(2, 4))
            columns = tuple(zip(chosen.sample(["a", "b", "c", "d", "e"], len(kinds)), kinds))
            self.schemas.append((name, columns, chosen.randint(1, 2)))
            work.make(self.schemas[-1])
            for at in range(3):
                told(work.make_index, (name + "xyz"[at], name, tuple(chosen.sample([one for one, _ in columns], chosen.randint(1, min(3, len(columns)))))))
            for _ in range(chosen.randint(0, 25)):
                work.put(name, tuple(chosen.choice(self.VALUES[kind]) for kind in kinds))
        work.finish()
        return base

    def columns(self, names, kind=None):
        """All ways to tell columns of tables, of a kind or of any, with their kinds."""
        found = []
        for at, name in enumerate(names):
            schema = self.schemas["tu".index(name)]
            ahead = [one for other in names[:at] for one, _ in self.schemas["tu".index(other)][1]]
            for one, its in schema[1]:
                found.append((("column", name, one), its))
                if one not in ahead:
                    found.append((("column", None, one), its))
        return [pair for pair in found if kind in (None, pair[1])]

    def one_test(self, chosen, names, deep):
        lot = chosen.randrange(7) if deep else 6
        if lot < 3:
            return ("and", self.one_test(chosen, names, deep - 1), self.one_test(chosen, names, deep - 1))
        if lot == 3:
            return ("or", self.one_test(chosen, names, deep - 1), self.one_test(chosen, names, deep - 1))
        if lot == 4:
            return ("not", self.one_test(chosen, names, deep - 1))
        column, kind = chosen.choice(self.columns(names))
        other = ("value", chosen.choice(self.VALUES[kind])) if chosen.randrange(4) else chosen.choice(self.columns(names, kind))[0]
        pair = (column, other) if chosen.randrange(3) else (other, column)
        return (chosen.choice(("=", "=", "=", "<>", "<", "<=", ">", ">=")), *pair)

    def any_test(self, chosen, names):
        return None if chosen.randrange(4) == 0 else self.one_test(chosen, names, chosen.randint(0, 3))

    def source(self, chosen):
        names = chosen.sample(["t", "u"], chosen.choice((1, 1, 2)))
        if len(names) == 1:
            return tuple(names)
        for _ in range(50):
            one, two = (chosen.choice(self.schemas["tu".index(name)][1]) for name in names)
            if one[1] == two[1]:
                return (*names, one[0], two[0])
        return (names[0],)

    def statement(self, chosen):
        source = self.source(chosen)
        names = source[:2] if len(source) == 4 else source
        any_column = [column for column, _ in self.columns(names)]
        test = self.any_test(chosen, names)
        if chosen.randrange(2):
            columns = None if chosen.randrange(3) == 0 else tuple(chosen.choice(any_column) for _ in range(chosen.randint(1, 3)))
            order = tuple((chosen.choice(any_column), chosen.choice((True, False))) for _ in range(chosen.randint(0, 3)))
            return ("take", columns, source, test, order, chosen.choice((None, None, 0, 1, 5)))
        word = chosen.choice(("count", "sum", "least", "most"))
        numbers = [column for column, _ in self.columns(names, "number")]
        if word == "sum" and not numbers:
            word = "most"
        column = None if word == "count" else chosen.choice(numbers if word == "sum" else any_column)
        return ("fold", word, column, source, test, chosen.choice((None, chosen.choice(any_column))))

    def test_takes_and_folds(self):
        answers = 0
        for seed in range(60):
            chosen = random.Random(8200 + seed)
            base = self.make(chosen)
            work = base.begin()
            oracle = Oracle(base.begin())
            for _ in range(30):
                statement = self.statement(chosen)
                kept = copy.deepcopy(statement)
                right = getattr(oracle, statement[0])(*statement[1:])
                for plain in (False, True):
                    self.assertEqual(repr(answered(work, statement, plain)), repr(right), statement)
                if len(statement_text(statement)) <= 1000:
                    self.assertEqual(repr(asked(work, statement_text(statement))), repr(right))
                self.assertEqual(statement, kept)
                answers += 1 if right else 0
        self.assertGreater(answers, 500)

    def test_drops_and_sets(self):
        many = 0
        for seed in range(120):
            chosen = random.Random(8300 + seed)
            base = self.make(chosen)
            schema = chosen.choice(self.schemas)
            name, columns, key = schema
            test = self.any_test(chosen, (name,))
            oracle = Oracle(base.begin())
            place_of, hit = oracle.rows((name,), test)
            if chosen.randrange(2) or key == len(columns):
                statement = ("drop", name, test)
                right = [row for row in oracle.held[name] if row not in hit]
            else:
                settings = []
                for one, kind in chosen.sample(columns[key:], chosen.randint(1, len(columns) - key)):
                    column = chosen.choice(self.columns((name,), kind))[0]
                    worths = [("value", chosen.choice(self.VALUES[kind])), column]
                    settings.append((one, chosen.choice(worths + ([("-", column, 1), ("+", column, 1)] if kind == "number" else []))))
                statement = ("set", name, tuple(settings), test)
                right = []
                for row in oracle.held[name]:
                    new = list(row)
                    for one, worth in settings:
                        new[place_of(("column", None, one))] = oracle_value(place_of, worth, row)
                    right.append(tuple(new) if row in hit else row)
            beyond = any(abs(value) > 1000000 for row in right for value in row if not isinstance(value, str))
            for plain in (False, True):
                work = base.begin()
                answer = told(answered, work, statement, plain)
                self.assertEqual(answer, bad("BadQuestion") if beyond else len(hit), statement)
                self.assertEqual(work.rows(name, None, None), oracle.held[name] if beyond else right)
                held = content(work)
                self.assertTrue(all(sorted(held[4][index[0]]) == held[3][index[1]] for index in held[1]))
            many += len(hit)
        self.assertGreater(many, 200)


class WorksSideBySide(unittest.TestCase):
    """What a statement looks at is what stands on its way."""

    def clash(self, mine, others):
        base = zoo()
        work = base.begin()
        asked(work, mine)
        asked(work, "put pets (90, 'y', 90, true)")
        said(base, others)
        return told(work.finish)

    def test_clashes(self):
        for mine in ["take * from pets where id = 3", "count from pets", "take name from pets where age = 9", "sum age from pets where id > 2 and id < 5",
                     "drop from pets where id = 3", "set pets age = 1 where name = 'Cy'", "take * from vets with pets on id = id"]:
            self.assertEqual(self.clash(mine, "set pets age = 10 where id = 3"), bad("Clash", table="pets"), mine)

    def test_no_clashes(self):
        for mine in ["take * from pets where id = 1", "take name from pets where age = 2", "drop from pets where id = 4", "set pets age = 1 where id < 3",
                     "take * from vets", "put pets (3, 'mine', 1, true)"]:
            self.assertEqual(self.clash(mine, "set pets age = 10 where id = 3"), 8, mine)
            self.assertEqual(self.clash(mine, "make other (a number key)"), 8, mine)
            self.assertEqual(self.clash(mine, "index other on pets (tame)"), 8, mine)

    def test_plain_looks_at_all_rows(self):
        for text in ("take * from pets where id = 1", "count from pets where age = 2"):
            for plain in (False, True):
                base = zoo()
                work = base.begin()
                answered(work, statement_of(text), plain)
                said(base, "set pets age = 10 where id = 3")
                self.assertEqual(told(work.finish), bad("Clash", table="pets") if plain else 6)

    def test_a_table_that_was_removed(self):
        for mine in ["take * from vets where id = 55", "drop from vets where id = 55", "set vets free = true where id = 55"]:
            self.assertEqual(self.clash(mine, "remove vets")[0], "Clash")
        base = zoo()
        work = base.begin()
        self.assertEqual(told(asked, work, "take no from vets"), bad("BadQuestion"))
        said(base, "remove vets")
        self.assertEqual(told(work.finish), bad("Clash", table="vets"))


class Over(unittest.TestCase):
    def test_a_work_that_is_over(self):
        work = zoo().begin()
        work.finish()
        for text in ("take * from pets", "take * from no", "put pets (1)", "remove pets", "no words", "", None, 5):
            self.assertEqual(told(asked, work, text), bad("Ended"))
        for text in ("take * from pets", "count from no", "drop from pets", "set pets no = 1", "put pets (1)", "make t (k number key)", "guard g on pets (id)"):
            self.assertEqual(told(answered, work, statement_of(text)), bad("Ended"))


class OnTables(unittest.TestCase):
    def test_tables_answer_too(self):
        tables = Tables(blank_pages())
        tables.make(PETS)
        for row in PET_ROWS:
            tables.put("pets", row)
        self.assertEqual(answered(tables, statement_of("take id from pets where tame = true")), [(1,), (3,), (7,)])
        base = zoo()
        said(base, "drop from pets")
        self.assertEqual(asked(base.as_of(6), "count from pets"), 5)
        self.assertEqual(asked(base.as_of(7), "count from pets"), 0)


if __name__ == "__main__":
    unittest.main()
