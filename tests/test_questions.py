import random
import unittest

from cutledger.questions import statement_of
from cutledger.questiontexts import statement_text
from asking import NAMES, any_statement, any_test, join, test_tokens, tokens_of
from helpers import ANYTHING, bad, told

WORDS = """make index remove put drop set take count sum least most from where and or not by down first for on with key
true false number text truth guard in""".split()


def column(name, table=None):
    return ("column", table, name)


def value(one):
    return ("value", one)


A1 = ("=", column("a"), value(1))
B2 = ("=", column("b"), value(2))
C3 = ("=", column("c"), value(3))


class Reading(unittest.TestCase):
    def same(self, text, statement):
        answer = told(statement_of, text)
        self.assertEqual(repr(answer), repr(statement), text)

    def test_examples(self):
        self.same("put pets (1, 'Bo')", ("put", "pets", (1, "Bo")))
        self.assertEqual(told(statement_of, "take"), bad("BadWords", at=4))

    def test_making(self):
        self.same("make t (a number key)", ("make", ("t", (("a", "number"),), 1)))
        self.same("make t(a text key,b truth key,c number)", ("make", ("t", (("a", "text"), ("b", "truth"), ("c", "number")), 2)))
        self.same("make t (a number key, b truth)", ("make", ("t", (("a", "number"), ("b", "truth")), 1)))
        self.same("index i on t (a)", ("index", ("i", "t", ("a",))))
        self.same("index i on t (c, a, b)", ("index", ("i", "t", ("c", "a", "b"))))
        self.same("guard g on t (a)", ("guard", ("g", "t", ("a",), None)))
        self.same("guard g on t (a, b, c) in u", ("guard", ("g", "t", ("a", "b", "c"), "u")))
        self.same("remove abcdefgh", ("remove", "abcdefgh"))

    def test_putting_and_dropping(self):
        self.same("put t (-1000000, 1000000, 0, -7, 'a b', '', true, false)", ("put", "t", (-1000000, 1000000, 0, -7, "a b", "", True, False)))
        self.same("put t ('''', 'it''s', '''''''''''''''''''')", ("put", "t", ("'", "it's", "'" * 9)))
        self.same("put t (007, -0, -010)", ("put", "t", (7, 0, -10)))
        self.same("drop from t", ("drop", "t", None))
        self.same("drop from t where a = 1", ("drop", "t", A1))

    def test_setting(self):
        self.same("set t a = 1", ("set", "t", (("a", value(1)),), None))
        self.same("set t a = b, c = t.d, e = 'x', f = true where a = 1",
                  ("set", "t", (("a", column("b")), ("c", column("d", "t")), ("e", value("x")), ("f", value(True))), A1))
        self.same("set t a = b + 5, c = t.c - 1000000, d = -3",
                  ("set", "t", (("a", ("+", column("b"), 5)), ("c", ("-", column("c", "t"), 1000000)), ("d", value(-3))), None))
        for text in ("set t a=b-5", "set t a = b -5", "set t a = b- 5", "set t a = b  -  5"):
            self.same(text, ("set", "t", (("a", ("-", column("b"), 5)),), None))
        self.same("set t a = a + 0", ("set", "t", (("a", ("+", column("a"), 0)),), None))

    def test_taking(self):
        self.same("take * from t", ("take", None, ("t",), None, (), None))
        self.same("take a, t.b from t where a = 1 by a down, t.b, c down first 3",
                  ("take", (column("a"), column("b", "t")), ("t",), A1, ((column("a"), True), (column("b", "t"), False), (column("c"), True)), 3))
        self.same("take * from t with u on a = b", ("take", None, ("t", "u", "a", "b"), None, (), None))
        self.same("take a from t with t on a = a first 0", ("take", (column("a"),), ("t", "t", "a", "a"), None, (), 0))
        self.same("take * from t by a", ("take", None, ("t",), None, ((column("a"), False),), None))
        self.same("take * from t first 1000000", ("take", None, ("t",), None, (), 1000000))
        self.same("take*from t first10", ("take", None, ("t",), None, (), 10))

    def test_folding(self):
        self.same("count from t", ("fold", "count", None, ("t",), None, None))
        self.same("count from t where a = 1 for t.b", ("fold", "count", None, ("t",), A1, column("b", "t")))
        for word in ("sum", "least", "most"):
            self.same(word + " a from t", ("fold", word, column("a"), ("t",), None, None))
            self.same(word + " t.a from t with u on b = c where a = 1 for d", ("fold", word, column("a", "t"), ("t", "u", "b", "c"), A1, column("d")))

    def test_tests(self):
        for text, test in [
            ("a = 1", A1), ("(a = 1)", A1), ("((a = 1))", A1), ("not a = 1", ("not", A1)), ("not not a = 1", ("not", ("not", A1))),
            ("a = 1 and b = 2", ("and", A1, B2)), ("a = 1 or b = 2", ("or", A1, B2)),
            ("a = 1 and b = 2 and c = 3", ("and", ("and", A1, B2), C3)), ("a = 1 or b = 2 or c = 3", ("or", ("or", A1, B2), C3)),
            ("a = 1 or b = 2 and c = 3", ("or", A1, ("and", B2, C3))), ("a = 1 and b = 2 or c = 3", ("or", ("and", A1, B2), C3)),
            ("(a = 1 or b = 2) and c = 3", ("and", ("or", A1, B2), C3)), ("a = 1 and (b = 2 or c = 3)", ("and", A1, ("or", B2, C3))),
            ("a = 1 and (b = 2 and c = 3)", ("and", A1, ("and", B2, C3))), ("not a = 1 and b = 2", ("and", ("not", A1), B2)),
            ("not (a = 1 and b = 2)", ("not", ("and", A1, B2))), ("a = 1 or not b = 2", ("or", A1, ("not", B2))),
            ("1 = a", ("=", value(1), column("a"))), ("t.a <> u.b", ("<>", column("a", "t"), column("b", "u"))),
            ("1 < 2", ("<", value(1), value(2))), ("'a' <= a", ("<=", value("a"), column("a"))), ("true > a", (">", value(True), column("a"))),
            ("a>=-5", (">=", column("a"), value(-5))), ("a<-5", ("<", column("a"), value(-5))), ("a<>-5", ("<>", column("a"), value(-5))),
            ("a = 'x'and b = 2or c = 3", ("or", ("and", ("=", column("a"), value("x")), B2), C3)),
            ("t . a=1", ("=", column("a", "t"), value(1))),
        ]:
            self.same("drop from t where " + text, ("drop", "t", test))

    def test_texts_of_each_sign(self):
        for code in range(32, 127):
            if chr(code) not in "%'":
                self.same(f"put t ('{chr(code)}')", ("put", "t", (chr(code),)))
        self.same("put t ('0123456789', '(a = 1)', 'and', '--')", ("put", "t", ("0123456789", "(a = 1)", "and", "--")))

    def test_any_statement_with_any_blanks_and_brackets(self):
        longest = 0
        for seed in range(1500):
            chosen = random.Random(7000 + seed)
            statement = any_statement(chosen)
            for by in (None, chosen):
                text, _ = join(tokens_of(statement, by), by)
                if len(text) <= 1000:
                    self.same(text, statement)
                    longest = max(longest, len(text))
        self.assertGreater(longest, 500)

    def test_equal_arguments_have_equal_answers(self):
        for text in ("put t (1)", "take", "drop from t where a = 1"):
            self.assertEqual(told(statement_of, text), told(statement_of, text))


class Wrong(unittest.TestCase):
    def at(self, text, at):
        self.assertEqual(told(statement_of, text), bad("BadWords", at=at), text)

    def test_no_strings(self):
        for one in [each for each in ANYTHING if not isinstance(each, str)] + [b"take", ["take"], ("put t (1)",)]:
            self.assertEqual(told(statement_of, one), bad("BadString"))

    def test_ends_too_soon(self):
        for text in ["", " ", "make", "make t", "make t (", "make t (a", "make t (a number", "make t (a number key", "make t (a number key,",
                     "index", "index i", "index i on", "index i on t", "index i on t (", "index i on t (a", "index i on t (a,", "guard g on t (a) in",
                     "guard g", "remove", "put", "put t", "put t (", "put t (1", "put t (1,", "put t ('a", "put t ('a''", "put t ('", "drop", "drop from",
                     "drop from t where", "drop from t where not", "drop from t where (", "drop from t where a", "drop from t where a =",
                     "drop from t where a = 1 and", "drop from t where a = 1 or", "drop from t where (a = 1", "drop from t where t.", "set", "set t",
                     "set t a", "set t a =", "set t a = b +", "set t a = 1,", "take", "take *", "take a", "take a,", "take t.", "take * from", "take * from t with",
                     "take * from t with u", "take * from t with u on", "take * from t with u on a", "take * from t with u on a =", "take * from t by",
                     "take * from t by a,", "take * from t first", "count", "count from", "count from t for", "sum", "sum a", "least a from", "most t."]:
            self.at(text, len(text))
            self.at(text + "  ", len(text) + 2) if not text.startswith("put t ('") else None

    def test_each_prefix(self):
        for seed in range(60):
            chosen = random.Random(7100 + seed)
            tokens = tokens_of(any_statement(chosen))
            text, starts = join(tokens)
            if len(text) > 400:
                continue
            for end in range(len(text)):
                answer = told(statement_of, text[:end])
                if answer[0] == "BadWords":
                    # A word that is cut off is no word that can stand, or there is one too few.
                    self.assertIn(answer[1]["at"], [end, max([0] + [start for start in starts if start < end])], text[:end])

    def test_the_first_wrong_sign(self):
        for seed in range(300):
            chosen = random.Random(7200 + seed)
            tokens = tokens_of(any_statement(chosen), chosen)
            at = chosen.randrange(len(tokens) + 1)
            sign = chosen.choice(["%", "$", "#", "A", "_", "\n", "\t", "\u00e9", "!", "\"", "/", ";", ":", "[", "~", "\\", "\x00", "\u0661"])
            text, starts = join([*tokens[:at], sign, *tokens[at:]])
            if len(text) <= 1000:
                self.at(text, starts[at])

    def test_words_too_much(self):
        for seed in range(300):
            chosen = random.Random(7300 + seed)
            tokens = tokens_of(any_statement(chosen), chosen)
            for more in ("key", "in", "(", "*", "=", "take", "."):
                if more == "in" and tokens[0] == "guard" or more == "." and tokens[-1][0].isalpha():
                    continue
                text, starts = join([*tokens, more])
                if len(text) <= 1000:
                    self.at(text, starts[-1])

    def test_first_words(self):
        for word in WORDS + ["a", "pets", "makes", "mak"]:
            if word not in ("make", "index", "guard", "remove", "put", "drop", "set", "take", "count", "sum", "least", "most"):
                self.at(word + " t (a number key)", 0)
        for text in ("Make t (a number key)", "TAKE", "1", "'a'", "(", "-1", "$", "\ttake * from t", "\n"):
            self.at(text, 0)
        self.at("  x", 2)

    def test_names_that_are_none(self):
        for name in [*WORDS, "abcdefghi", "z" * 30, "1", "'a'", "-1", "(", "*", "A", "Pets", "_a", ".", "\u00e9"]:
            self.at(f"make {name} (a number key)", 5)
            self.at(f"make t ({name} number key)", 8)
            self.at(f"index {name} on t (a)", 6)
            self.at(f"index i on {name} (a)", 11)
            self.at(f"index i on t ({name})", 14)
            self.at(f"guard {name} on t (a)", 6)
            self.at(f"guard g on t (a) in {name}", 20)
            self.at(f"remove {name}", 7)
            self.at(f"put {name} (1)", 4)
            self.at(f"drop from {name}", 10)
            self.at(f"set {name} a = 1", 4)
            self.at(f"set t {name} = 1", 6)
            self.at(f"take t.{name} from t", 7)
            self.at(f"take a from {name}", 12)
            self.at(f"take a from t with {name} on a = b", 19)
            self.at(f"take a from t with u on {name} = b", 24)
            self.at(f"take a from t with u on a = {name}", 28)
            self.at(f"take a from t by {name}", 17)
            self.at(f"count from t for {name}", 17)
            self.at(f"sum {name} from t", 4)
            self.at(f"drop from t where t.{name} = 1", 20)
            if name != "*":
                self.at(f"take {name} from t", 5)

    def test_names_that_go_on_with_other_signs(self):
        self.at("remove pets1", 11)
        self.at("remove pe_ts", 9)
        self.at("remove peTs", 9)
        self.at("remove a.b", 8)
        self.at("remove a b", 9)

    def test_words_that_begin_as_names_do(self):
        for name in NAMES:
            self.assertEqual(statement_of("remove " + name), ("remove", name))

    def test_columns_with_tables_where_none_may_stand(self):
        self.at("set t t.a = 1", 7)
        self.at("take * from t with u on t.a = b", 25)
        self.at("take * from t with u on a = u.b", 29)
        self.at("index i on t (t.a)", 15)
        self.at("take * from t.u", 13)
        self.at("take t.a.b from t", 8)

    def test_numbers(self):
        for text, at in [
            ("put t (1000001)", 7), ("put t (-1000001)", 7), ("put t (1, 9999999999)", 10), ("put t (- 5)", 7), ("put t (--5)", 7), ("put t (+5)", 7),
            ("put t (-)", 7), ("put t (-a)", 7), ("put t (5-5)", 8), ("put t (1.5)", 8), ("put t (1 2)", 9), ("put t (5a)", 8),
            ("drop from t where a = 1000001", 22), ("drop from t where -1000001 = a", 18), ("drop from t where a = - 1", 22),
            ("set t a = 1000001", 10), ("set t a = b + 1000001", 14), ("set t a = b - 1000001", 14), ("set t a = b - -1", 14), ("set t a = b + + 1", 14),
            ("set t a = b + c", 14), ("set t a = b + 'x'", 14), ("set t a = 5 + 3", 12), ("set t a = b + 1 + 1", 16), ("set t a = 'x' + 1", 14),
            ("take * from t first 1000001", 20), ("take * from t first -1", 20), ("take * from t first a", 20), ("take * from t first '1'", 20),
            ("drop from t where a + 1 = 2", 20), ("drop from t where a = b + 1", 24), ("take a + 1 from t", 7),
            ("put t (" + "1" * 900 + ")", 7), ("put t (-" + "0" * 500 + "1000001)", 7),
        ]:
            self.at(text, at)
        self.assertEqual(statement_of("put t (-" + "0" * 500 + "1000000)"), ("put", "t", (-1000000,)))

    def test_values(self):
        for one in ("a", "key", "null", "(1)", "*", "=", ")", ",", "t.a", "none", "truth"):
            self.at(f"put t ({one})", 7)
            self.at(f"put t (1, {one})", 10)

    def test_texts(self):
        for text, at in [
            ("put t ('01234567890')", 18), ("put t ('0123456789", 18), ("put t ('0123456789a", 18), ("put t ('0123456789''')", 18),
            ("put t ('''''''''''''''''''''''", 28), ("put t ('a%')", 9), ("put t ('%", 8), ("put t ('a\nb')", 9), ("put t ('a\tb')", 9), ("put t ('\u00e9')", 8),
            ("put t ('0123456789%')", 18), ("put t ('012345678%9')", 17), ("put t ('a' 'b')", 11), ("put t ('a'", 10), ("put t ('\x7f')", 8),
            ("take 'a", 5), ("take '01234567890' from t", 5), ("remove 'a%", 7), ("drop from t where a = '01234567890'", 33),
        ]:
            self.at(text, at)

    def test_schemas_that_are_none(self):
        for text in [
            "make t (a number)", "make t (a number, b truth)", "make t (a number key, a truth)", "make t (a text key, b text key)",
            "make t (a truth key, b truth, c truth, d truth, e truth, f truth)", "make t (k truth key, a text, b text)",
            "make t (a number)  $", "make t (a number key, a number) take",
        ]:
            self.at(text, 5)
        for text in ("index i on t (a, a)", "index i on t (a, b, c, d)", "index i on t (a, b, a)", "guard g on t (a, a)", "guard g on t (a, b, c, d) in u",
                     "index i on t (a, a) $", "guard g on t (a, a) in $", "guard g on t (a, b, c, d) in"):
            self.at(text, 6)
        self.at("make   t (a number)", 7)
        self.at("index i on t (a, a", 18)
        self.at("make t (a number, a number", 26)

    def test_keys_of_a_make(self):
        self.at("make t (a number, b number key)", 27)
        self.at("make t (a number key, b number, c truth key)", 40)
        self.at("make t (a number key key)", 21)
        self.at("make t (key a number)", 8)
        self.at("make t (a key number)", 10)
        self.at("make t (a number, b number key", 27)

    def test_kinds(self):
        for kind in ("a", "key", "numbers", "integer", "true", "Number", "1", "'text'", ",", ")"):
            self.at(f"make t (a {kind} key)", 10)

    def test_what_stands_wrong(self):
        for text, at in [
            ("make t a number key", 7), ("make t ()", 8), ("make t (a number key,)", 21), ("make t (a number key b truth)", 21), ("make t (a number key))", 21),
            ("index i t (a)", 8), ("index i on t a", 13), ("index i on t ()", 14), ("index i on t (a b)", 16), ("guard g on t (a) on u", 17),
            ("guard g on t (a) in u v", 22), ("remove t u", 9), ("put t 1", 6), ("put t ()", 7), ("put t (1,)", 9), ("put (1)", 4), ("put t (1) where a = 1", 10),
            ("drop t", 5), ("drop from t a = 1", 12), ("drop from t first 1", 12), ("drop * from t", 5), ("set t where a = 1", 6), ("set t a 1", 8),
            ("set t a = 1 b = 2", 12), ("set t a <> 1", 8), ("set t a = 1, where a = 1", 13), ("take from t", 5), ("take *, a from t", 6), ("take a b from t", 7),
            ("take a, * from t", 8), ("take * t", 7), ("take * from t first 1 by a", 22), ("take * from t by a where a = 1", 19), ("take * from t by a down down", 24),
            ("take * from t by down", 17), ("take * from t for a", 14), ("take * from t, u", 13), ("take * from t on a = b", 14), ("take * from t with u", 20),
            ("take * from t with u on a <> b", 26), ("take * from t with u on a = 1", 28), ("take * from t with u on a = b with v on c = d", 30),
            ("count a from t", 6), ("count * from t", 6), ("count from t by a", 13), ("count from t for a, b", 18), ("count from t first 1", 13),
            ("sum from t", 4), ("sum * from t", 4), ("sum 1 from t", 4), ("sum a, b from t", 5), ("sum a from t for a where a = 1", 19),
            ("drop from t where", 17), ("drop from t where a", 19), ("drop from t where and a = 1", 18), ("drop from t where a = 1 and or b = 2", 28),
            ("drop from t where a = 1 b = 2", 24), ("drop from t where a == 1", 21), ("drop from t where a =< 1", 21), ("drop from t where a < = 1", 22),
            ("drop from t where a = b = c", 24), ("drop from t where ()", 19), ("drop from t where (a) = 1", 20), ("drop from t where a = (1)", 22),
            ("drop from t where (a = 1", 24), ("drop from t where a = 1)", 23), ("drop from t where a not = 1", 20), ("drop from t where a = not 1", 22),
            ("drop from t where true", 22), ("drop from t where true and a = 1", 23), ("drop from t where where a = 1", 18), ("drop from t where * = 1", 18),
        ]:
            self.at(text, at)

    def test_brackets_and_nots(self):
        for seed in range(60):
            chosen = random.Random(7400 + seed)
            opens = [chosen.choice(("(", "not ", "( ", " not ")) for _ in range(20)]
            for many in (11, 12):
                text = "drop from t where " + "".join(opens[:many]) + " a = 1" + " )" * sum("(" in one for one in opens[:many])
                test = A1
                for one in reversed(opens[:many]):
                    test = test if "(" in one else ("not", test)
                self.assertEqual(told(statement_of, text), ("drop", "t", test), text)
            for many in (13, 14, 20):
                text = "drop from t where " + "".join(opens[:13])
                at = len(text)
                text += "".join(opens[13:many]) + "a = 1" + ")" * sum("(" in one for one in opens[:many])
                while text[at] == " ":
                    at += 1
                self.at(text, at)
        self.at("drop from t where " + "(" * 13, 31)
        self.at("drop from t where " + "(" * 13 + " a = 1" + ")" * 13, 32)
        self.at("drop from t where " + "not " * 13 + "a = 1", 70)
        self.at("drop from t where b = 2 and " + "(" * 13 + "a = 1", 41)
        twelve = "(" * 12 + "a = 1" + ")" * 12
        self.assertEqual(statement_of(f"drop from t where {twelve} and {twelve} or not a = 1"), ("drop", "t", ("or", ("and", A1, A1), ("not", A1))))
        self.at(f"drop from t where not {twelve}", 34)

    def test_length(self):
        text = "put t ('a'" + " " * 989 + ")"
        self.assertEqual((len(text), statement_of(text)), (1000, ("put", "t", ("a",))))
        self.at(text + " ", 1000)
        for wrong in ("$" * 1001, " " * 1001, "a" * 5000, "put t ('a')" + " " * 990):
            self.at(wrong, 1000)
        self.at("$" * 1000, 0)
        self.at(" " * 1000, 1000)


class Writing(unittest.TestCase):
    def test_example(self):
        self.assertEqual(statement_text(("drop", "pets", ("=", ("column", None, "id"), ("value", 1)))), "drop from pets where id = 1")

    def test_forms(self):
        for text in [
            "make t (a number key, b text key, c truth)", "index i on t (a, b)", "guard g on t (a)", "guard g on t (a, b) in u", "remove x",
            "put t (1, -1, 'it''s', '', true, false)", "drop from t", "set t a = 1, b = t.c, d = e + 5, f = g - 0 where a = 1",
            "take * from t", "take a, t.b from t with u on a = b where a = 1 or not b <> 2 by a down, t.b first 3", "count from t where a = 1 for b",
            "sum a from t", "least t.a from t with u on a = b", "most a from t for t.b", "take * from t first 0", "drop from t where 1 < 2 and 'a' >= b",
        ]:
            self.assertEqual(statement_text(statement_of(text)), text)

    def test_read_back(self):
        for seed in range(1500):
            chosen = random.Random(7500 + seed)
            statement = any_statement(chosen)
            text = statement_text(statement)
            if len(text) <= 1000:
                self.assertEqual(repr(statement_of(text)), repr(statement), text)

    def brackets(self, text):
        """The pairs of places of brackets in a text without quotes."""
        pairs, stack = [], []
        for at, sign in enumerate(text):
            if sign == "(":
                stack.append(at)
            elif sign == ")":
                pairs.append((stack.pop(), at))
        return pairs

    def test_no_bracket_can_be_left_out(self):
        many = 0
        for seed in range(400):
            chosen = random.Random(7600 + seed)
            test = self.plain(any_test(chosen, 5))
            statement = ("drop", "t", test)
            text = statement_text(statement)
            self.assertEqual(text.count("("), test_tokens(test).count("("))
            if len(text) > 1000:
                continue
            for first, last in self.brackets(text):
                without = text[:first] + " " + text[first + 1:last] + " " + text[last + 1:]
                self.assertNotEqual(told(statement_of, without), statement)
                many += 1
        self.assertGreater(many, 300)

    def plain(self, test):
        """A test without texts, which may have brackets in them."""
        if test[0] in ("and", "or", "not"):
            return (test[0], *[self.plain(one) for one in test[1:]])
        return (test[0], *[("value", 5) if isinstance(worth[1], str) and worth[0] == "value" else worth for worth in test[1:]])

    def test_texts_with_quotes(self):
        for one in ("'", "''", "a'b", "'a'", "'" * 10, " ' ", "", "\\", "\"", "and", "(1"):
            statement = ("put", "t", (one,))
            self.assertEqual(statement_of(statement_text(statement)), statement)


if __name__ == "__main__":
    unittest.main()
