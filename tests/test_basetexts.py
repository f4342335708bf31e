import random
import unittest

from cutledger.basetexts import load, text_of
from cutledger.questiontexts import statement_text
from cutledger.works import Base
from helpers import ANYTHING, bad, told
from serial import content
from test_answers import PET_ROWS, VET_ROWS, zoo
from test_tables import random_row, random_schema
from test_works import committed


def copied(base, shape=(64, 64)):
    """A base made again from the text of another one."""
    again = Base(shape)
    work = again.begin()
    load(work, text_of(base.begin()))
    work.finish()
    return again


class Examples(unittest.TestCase):
    def test_example(self):
        work = Base((8, 8)).begin()
        self.assertEqual([load(work, "make pets (id number key)\nput pets (3)"), text_of(work)], [[None, None], "make pets (id number key)\nput pets (3)"])


class TextOf(unittest.TestCase):
    def test_lines_in_order(self):
        base = zoo("guard z on pets (id)", "guard a on vets (name, id)", "make b (k truth key)")
        lines = text_of(base.begin()).split("\n")
        right = ["make b (k truth key)", "make pets (id number key, name text, age number, tame truth)"]
        right += [statement_text(("put", "pets", row)) for row in PET_ROWS]
        right += ["make vets (name text key, id number key, free truth)"] + [statement_text(("put", "vets", row)) for row in VET_ROWS]
        right += ["index byage on pets (age)", "index byid on vets (id)", "index byname on pets (name, tame)"]
        right += ["guard a on vets (name, id)", "guard z on pets (id)"]
        self.assertEqual(lines, right)

    def test_void(self):
        self.assertEqual(text_of(Base((4, 4)).begin()), "")
        self.assertEqual(load(Base((4, 4)).begin(), ""), [])

    def test_a_work_with_its_own_changes(self):
        base = zoo()
        work = base.begin()
        work.remove("vets")
        work.drop("pets", (1,))
        work.put("pets", (2, "it's", -5, False))
        self.assertIn("put pets (2, 'it''s', -5, false)\n", text_of(work))
        self.assertNotIn("vets", text_of(work))
        self.assertIn("vets", text_of(base.begin()))

    def test_it_looks_at_all(self):
        for others in [("put", "pets", (50, "", 1, True)), ("make", ("new", (("k", "truth"),), 1)), ("remove", "byid")]:
            base = zoo()
            work = base.begin()
            text_of(work)
            committed(base, others)
            self.assertEqual(told(work.finish)[0], "Clash")

    def test_tables_to_be_read(self):
        base = zoo()
        before = text_of(base.begin())
        committed(base, ("remove", "pets"))
        self.assertEqual(text_of(base.as_of(6)), before)


class MadeAgain(unittest.TestCase):
    def test_zoo(self):
        base = zoo("guard g on pets (id, age)")
        again = copied(base)
        self.assertEqual(content(again.begin()), content(base.begin()))
        self.assertEqual(text_of(again.begin()), text_of(base.begin()))
        self.assertEqual(again.commit, 1)

    def test_any_tables(self):
        for seed in range(25):
            chosen = random.Random(9600 + seed)
            base = Base((64, 64))
            work = base.begin()
            for name in ("b", "a", "ab"):
                schema = random_schema(chosen, name)
                columns = [one for one, _ in schema[1]]
                told(work.make, schema)
                for at in range(2):
                    told(work.make_index, ("ij"[at] + name, name, tuple(chosen.sample(columns, chosen.randint(1, min(2, len(columns)))))))
                told(work.make_guard, ("g" + name, name, tuple(columns[:3]) if schema[2] <= 3 and len(columns) <= 3 else (columns[0],), None))
                for _ in range(chosen.randint(0, 25)):
                    told(work.put, name, random_row(chosen, schema))
            if isinstance(told(work.finish), tuple):
                for guard in work.guards():
                    work.remove(guard[0])
                work.finish()
            again = copied(base)
            self.assertEqual(content(again.begin()), content(base.begin()))

    def test_guards_with_other_tables(self):
        base = Base((32, 32))
        work = base.begin()
        text = "make a (k number key, x number)\nput a (1, 5)\nmake z (k number key)\nput z (5)\nguard g on a (x) in z\nguard h on z (k)"
        self.assertEqual(load(work, text), [None] * 6)
        self.assertEqual(work.finish(), 1)
        self.assertEqual(text_of(base.begin()), text)
        self.assertEqual(content(copied(base).begin()), content(base.begin()))


class Loading(unittest.TestCase):
    def test_answers(self):
        work = zoo().begin()
        text = "take id from pets where id > 3\ncount from vets\n\ndrop from pets where id = 1\nput vets ('x', 1, true)\nset pets age = 1 where tame = false\nleast age from pets"
        self.assertEqual(load(work, text), [[(4,), (7,)], 4, 1, None, 2, 1])

    def test_void_lines(self):
        for text in ["\nput t (1)", "put t (1)\n", "\n\n\nput t (1)\n\n", "   \nput t (1)\n ", "  put t (1)  "]:
            work = Base((8, 8)).begin()
            work.make(("t", (("k", "number"),), 1))
            self.assertEqual(load(work, text), [None])
            self.assertEqual(work.rows("t", None, None), [(1,)])
        for text in ("", "\n", "\n\n\n", " ", "  \n   "):
            self.assertEqual(load(Base((8, 8)).begin(), text), [])

    def test_no_strings(self):
        work = Base((8, 8)).begin()
        for value in [one for one in ANYTHING if not isinstance(one, str)] + [b"", ["put t (1)"], ("",)]:
            self.assertEqual(told(load, work, value), bad("BadString"), value)

    def test_statements_that_are_refused(self):
        for text, error in [
            ("put t (1)\nput t (2, 3)", bad("BadRow")), ("put t (1)\nput u (2)", bad("NoTable", name="u")), ("put t (1)\n  put t", bad("BadWords", at=7)),
            ("put t (1)\nput t (1);", bad("BadWords", at=9)), ("put t (1)\nmake t (a number key)", bad("Taken", name="t")), ("put t (1)\r\nput t (2)", bad("BadWords", at=9)),
            ("put t (1)\ntake a from t", bad("BadQuestion")), ("put t (1)\nindex i on t (a)", bad("BadSchema")), ("put t (1)\n" + " " * 1000 + "\n" + "x" * 1001, bad("BadWords", at=1000)),
            ("put t (1)\n\tput t (2)", bad("BadWords", at=0)),
        ]:
            work = Base((8, 8)).begin()
            work.make(("t", (("k", "number"),), 1))
            self.assertEqual(told(load, work, text), error, text)
            self.assertEqual(work.rows("t", None, None), [(1,)] if "\r" not in text else [])

    def test_over(self):
        work = Base((8, 8)).begin()
        work.leave()
        self.assertEqual(told(text_of, work), bad("Ended"))
        self.assertEqual(told(load, work, "make t (a number key)"), bad("Ended"))
        self.assertEqual(told(load, work, "take * from t"), bad("Ended"))
        for text in ("", 5, None, "no words"):
            self.assertEqual(told(load, work, text), bad("Ended"))


if __name__ == "__main__":
    unittest.main()
