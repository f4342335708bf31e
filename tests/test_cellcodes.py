import random
import unittest
from itertools import product

from cutledger.cellcodes import row_key, row_of_key
from helpers import ANYTHING, NO_INTEGERS, NO_TUPLES, bad, told

SIGNS = "".join(chr(code) for code in range(32, 127) if code != 37)
KINDS = ("number", "text", "truth")
NO_TEXTS = [value for value in [*ANYTHING, None, True, 0] if not isinstance(value, str)] + [
    "a" * 11, "%", "a%", "\n", "\t", "\x7f", "\x1f", "\u00e9", "\u0430", b"a", ["a"], "abc\x00",
]
NO_NUMBERS = NO_INTEGERS + [1000001, -1000001, 10 ** 30, "5", 1.0]
NO_TRUTHS = [value for value in ANYTHING if not isinstance(value, bool)] + [0, 1, "True", None]


class Examples(unittest.TestCase):
    def test_examples(self):
        self.assertEqual(
            [row_key(("number", "truth"), (5, True)), row_key(("text",), ("a",)), row_of_key(("number",), (15, 66, 64))],
            [(15, 66, 69, 1), (65, 0), (0,)])
        self.assertEqual(told(row_key, ("text",), (5,)), bad("BadRow"))


class Values(unittest.TestCase):
    def test_numbers(self):
        for value in [-1000000, -999999, -1, 0, 1, 255, 256, 65535, 65536, 999999, 1000000]:
            code = tuple((value + 1000000) // 256 ** place % 256 for place in (2, 1, 0))
            self.assertEqual(row_key(("number",), (value,)), code)
            self.assertEqual(row_of_key(("number",), code), (value,))
        self.assertEqual(row_key(("number",), (-1000000,)), (0, 0, 0))
        self.assertEqual(row_key(("number",), (1000000,)), (30, 132, 128))

    def test_texts(self):
        self.assertEqual(len(SIGNS), 94)
        for place, sign in enumerate(SIGNS):
            self.assertEqual(row_key(("text",), (sign,)), (place + 1, 0))
            self.assertEqual(row_of_key(("text",), (place + 1, 0)), (sign,))
            self.assertEqual(row_key(("text",), (sign * 10,)), (place + 1,) * 10 + (0,))
            self.assertEqual(row_of_key(("text",), (place + 1,) * 10 + (0,)), (sign * 10,))
        self.assertEqual(row_key(("text",), ("",)), (0,))
        self.assertEqual(row_of_key(("text",), (0,)), ("",))
        self.assertEqual(row_key(("text",), (" ~\\\"'`",)), (1, 94, 60, 3, 7, 64, 0))

    def test_truths(self):
        self.assertEqual((row_key(("truth",), (False,)), row_key(("truth",), (True,))), ((0,), (1,)))
        for value in (False, True):
            self.assertIs(row_of_key(("truth",), (int(value),))[0], value)

    def test_none_and_many(self):
        self.assertEqual((row_key((), ()), row_of_key((), ())), ((), ()))
        self.assertEqual(row_key(("text", "text", "number", "truth"), ("", "b", 0, False)), (0, 66, 0, 15, 66, 64, 0))
        self.assertEqual(row_of_key(("text", "text", "number", "truth"), (0, 66, 0, 15, 66, 64, 0)), ("", "b", 0, False))
        self.assertEqual(row_of_key(("truth",) * 30, (1, 0) * 15), (True, False) * 15)

    def test_what_is_read_back_is_of_its_kind(self):
        chosen = random.Random(181)
        for _ in range(300):
            kinds = tuple(chosen.choice(KINDS) for _ in range(chosen.randint(0, 5)))
            values = tuple(self.value(chosen, kind) for kind in kinds)
            again = row_of_key(kinds, row_key(kinds, values))
            self.assertEqual(repr(again), repr(values))

    def value(self, chosen, kind):
        if kind == "number":
            return chosen.choice((-1000000, 1000000, 0, chosen.randint(-1000000, 1000000), chosen.randint(-300, 300)))
        if kind == "text":
            return "".join(chosen.choice(SIGNS[:3] + SIGNS) for _ in range(chosen.choice((0, 1, 2, 10))))
        return chosen.choice((False, True))

    def test_values_are_in_order_as_their_bytes_are(self):
        chosen = random.Random(182)
        for kinds in [("number",), ("text",), ("truth",), *product(KINDS, repeat=2), ("text", "text", "number")]:
            rows = [tuple(self.value(chosen, kind) for kind in kinds) for _ in range(60)]
            rows += [tuple({"number": 0, "text": text, "truth": True}[kind] for kind in kinds) for text in ("", "a", "a ", "ab", "b", "~")]
            self.assertEqual(sorted(rows), sorted(rows, key=lambda row: row_key(kinds, row)))
            for one, other in zip(rows, rows[1:]):
                self.assertEqual(one < other, row_key(kinds, one) < row_key(kinds, other))

    def test_the_signs_are_in_order_as_strings_are(self):
        texts = sorted([a + b for a in ["", *SIGNS] for b in ["", " ", "~", "A"]])
        self.assertEqual(texts, sorted(texts, key=lambda text: row_key(("text",), (text,))))


class WrongValues(unittest.TestCase):
    def test_values(self):
        for kind, wrong in [("number", NO_NUMBERS), ("text", NO_TEXTS), ("truth", NO_TRUTHS)]:
            right = {"number": 0, "text": "a", "truth": True}
            for value in wrong:
                self.assertEqual(told(row_key, (kind,), (value,)), bad("BadRow"), (kind, value))
                for other in KINDS:
                    self.assertEqual(told(row_key, (other, kind), (right[other], value)), bad("BadRow"))

    def test_tuples_of_values(self):
        for values in [*NO_TUPLES, (), (5, 5), ((5,),), [5], {5: 5}, "5", 5]:
            self.assertEqual(told(row_key, ("number",), values), bad("BadRow"))
        self.assertEqual(told(row_key, (), (5,)), bad("BadRow"))
        self.assertEqual(told(row_key, ("number", "truth"), (True, 5)), bad("BadRow"))

    def test_kinds(self):
        for kinds in [*NO_TUPLES, ("Number",), (None,), (5,), (("number",),), ["number"], "number", ("number", None), ({},), ([],)]:
            self.assertEqual(told(row_key, kinds, (5,)), bad("BadRow"))
            self.assertEqual(told(row_of_key, kinds, (15, 66, 64)), bad("BadRow"))
            self.assertEqual(told(row_key, kinds, (True,)), bad("BadRow"))
            self.assertEqual(told(row_of_key, kinds, (1,)), bad("BadRow"))

    def test_bytes_that_are_none_of_values(self):
        for kinds, keys in [
            (("number",), [(), (0, 0), (0, 0, 0, 0), (30, 132, 129), (255, 255, 255), (0, 0, 256), (0, True, 0)]),
            (("text",), [(), (1,), (0, 0), (1, 0, 0), (95, 0), (255, 0), (1,) * 11 + (0,), (1,) * 10, (1, None)]),
            (("truth",), [(), (2,), (255,), (0, 0), (True,)]),
            (("number", "text"), [(0, 0, 0), (0, 0, 0, 1), (0, 0, 1, 0, 0), (0, 0)]),
            ((), [(0,)]),
        ]:
            for key in [*NO_TUPLES, *keys]:
                self.assertEqual(told(row_of_key, kinds, key), bad("BadRow"), (kinds, key))


if __name__ == "__main__":
    unittest.main()
