import unittest

from cutledger.bytecodes import (
    fixed_from, fixed_to, number_from, number_to, text_from, text_to, thing_from, thing_to,
)
from helpers import ANYTHING, NO_INTEGERS, NO_TUPLES, bad, told

SIGNS = (
    " " "0123456789" "ABCDEFGHIJKLMNOPQRSTUVWXYZ" "abcdefghijklmnopqrstuvwxyz" "_-.,:;!?'()+*/=<>@#&"
)
BAD_ROWS = NO_TUPLES + [
    (256,), (-1,), (0, True), (False,), (None,), ("a",), ("",), ((),), ((1,),), ([],), ({},), (1, 2, 256), (0,) * 4097,
    (10 ** 30,),
]
NUMBERS = [
    (0, (0,)), (1, (1,)), (127, (127,)), (128, (128, 1)), (129, (129, 1)), (255, (255, 1)), (256, (128, 2)),
    (300, (172, 2)), (16383, (255, 127)), (16384, (128, 128, 1)), (2097151, (255, 255, 127)),
    (2097152, (128, 128, 128, 1)), (10 ** 18, (128, 128, 144, 187, 186, 214, 173, 240, 13)),
]


def nested(deep, inside=()):
    """A thing of so many tuples within one another, with things in the innermost one."""
    thing = tuple(inside)
    for _ in range(deep - 1):
        thing = (thing,)
    return thing


class Examples(unittest.TestCase):
    def test_examples(self):
        self.assertEqual(
            [number_to(300), number_from((9, 172, 2), 1), fixed_to(258, 3), fixed_from((1, 2, 3), 1, 2)],
            [(172, 2), (300, 3), (0, 1, 2), (515, 3)])
        self.assertEqual(
            [text_to("a 1"), text_from((3, 37, 0, 2), 0), thing_to((5, "a")), thing_from((2, 2, 0, 5, 1, 1, 37), 0)],
            [(3, 37, 0, 2), ("a 1", 4), (2, 2, 0, 5, 1, 1, 37), ((5, "a"), 7)])
        self.assertEqual(told(number_from, (128,), 0), bad("BadCode", at=0))


class Numbers(unittest.TestCase):
    def test_codes(self):
        for value, code in NUMBERS:
            with self.subTest(value):
                self.assertEqual(number_to(value), code)
                self.assertEqual(number_from(code, 0), (value, len(code)))

    def test_codes_are_the_rests_by_128(self):
        for value in [*range(0, 40000, 37), *(3 ** power for power in range(38)), *(2 ** power for power in range(60))]:
            code = number_to(value)
            self.assertEqual(sum(byte % 128 * 128 ** at for at, byte in enumerate(code)), value)
            self.assertTrue(all(byte >= 128 for byte in code[:-1]) and code[-1] < 128)

    def test_read_at_every_place_of_a_longer_row(self):
        for value, code in NUMBERS:
            for ahead in range(12):
                for behind in range(3):
                    row = (200,) * ahead + code + (255,) * behind
                    self.assertEqual(number_from(row, ahead), (value, ahead + len(code)))

    def test_a_code_in_the_midst_of_a_code(self):
        row = number_to(10 ** 18)
        self.assertEqual(number_from(row, 8), (13, 9))
        self.assertEqual(number_from(row, 7), (112 + 13 * 128, 9))

    def test_wrong_numbers(self):
        for value in [*NO_INTEGERS, -1, 10 ** 18 + 1, 2 ** 60, 10 ** 40, -10 ** 40]:
            with self.subTest(value=value):
                self.assertEqual(told(number_to, value), bad("BadNumber"))

    def test_a_row_that_ends_too_soon(self):
        for value, code in NUMBERS:
            for length in range(len(code)):
                self.assertEqual(told(number_from, (7,) * 3 + code[:length], 3), bad("BadCode", at=3))
        self.assertEqual(told(number_from, (), 0), bad("BadCode", at=0))
        self.assertEqual(told(number_from, (1, 2), 2), bad("BadCode", at=2))
        self.assertEqual(told(number_from, (255,) * 4096, 5), bad("BadCode", at=5))

    def test_a_code_longer_than_it_need_be(self):
        for row in [(128, 0), (129, 0), (255, 128, 0), (128, 128, 128, 0), (255,) * 8 + (0,), (128,) * 12 + (0,)]:
            self.assertEqual(told(number_from, row, 0), bad("BadCode", at=0))
            self.assertEqual(told(number_from, (1, *row), 1), bad("BadCode", at=1))
        self.assertEqual(number_from((0,), 0), (0, 1))
        self.assertEqual(number_from((5, 0, 0), 1), (0, 2))
        self.assertEqual(number_from((128, 128, 1), 0), (16384, 3))

    def test_a_number_too_great(self):
        code = number_to(10 ** 18)
        for row in [(129, *code[1:]), (*code[:-1], 14), (255,) * 8 + (127,), (128,) * 9 + (1,), (255,) * 4000 + (1,)]:
            self.assertEqual(told(number_from, (*row, 1), 0), bad("BadCode", at=0))
            self.assertEqual(told(number_from, (3, 3, *row), 2), bad("BadCode", at=2))

    def test_wrong_rows_and_places(self):
        for function in (number_from, text_from, thing_from):
            for row in BAD_ROWS:
                self.assertEqual(told(function, row, 0), bad("BadRow"))
                self.assertEqual(told(function, row, None), bad("BadRow"))
            for at in [*NO_INTEGERS, -1, 4, 10 ** 30]:
                self.assertEqual(told(function, (0, 0, 0), at), bad("BadPlace"))
            self.assertEqual(told(function, (), 1), bad("BadPlace"))
            self.assertEqual(told(function, (0, 0, 0), 3), bad("BadCode", at=3))

    def test_the_longest_row(self):
        self.assertEqual(number_from((0,) * 4096, 4095), (0, 4096))


class FixedNumbers(unittest.TestCase):
    def test_each_length(self):
        for many in range(1, 8):
            greatest = 256 ** many - 1
            self.assertEqual(fixed_to(greatest, many), (255,) * many)
            self.assertEqual(fixed_to(0, many), (0,) * many)
            self.assertEqual(fixed_to(1, many), (0,) * (many - 1) + (1,))
            self.assertEqual(told(fixed_to, greatest + 1, many), bad("BadNumber"))
            self.assertEqual(fixed_from((255,) * many, 0, many), (greatest, many))
            self.assertEqual(told(fixed_from, (255,) * (many - 1), 0, many), bad("BadCode", at=0))
        self.assertEqual(fixed_to(0x0102030405, 7), (0, 0, 1, 2, 3, 4, 5))

    def test_read_at_every_place(self):
        row = tuple(range(20, 40))
        for many in range(1, 8):
            for at in range(21):
                if at + many <= 20:
                    value = int("".join(f"{byte:02x}" for byte in row[at:at + many]), 16)
                    self.assertEqual(fixed_from(row, at, many), (value, at + many))
                    self.assertEqual(fixed_to(value, many), row[at:at + many])
                else:
                    self.assertEqual(told(fixed_from, row, at, many), bad("BadCode", at=at))

    def test_wrong_values(self):
        for wrong in [*NO_INTEGERS, -1, 10 ** 18 + 1]:
            self.assertEqual(told(fixed_to, wrong, 7), bad("BadNumber"))
        self.assertEqual(told(fixed_to, 10 ** 18, 7), bad("BadNumber"))
        for many in [*NO_INTEGERS, -1, 0, 8, 10 ** 30]:
            self.assertEqual(told(fixed_to, 0, many), bad("BadNumber"))
            self.assertEqual(told(fixed_from, (0,) * 20, 0, many), bad("BadNumber"))
            self.assertEqual(told(fixed_from, (0,) * 20, 21, many), bad("BadPlace"))
            self.assertEqual(told(fixed_from, (0,) * 20, 20, many), bad("BadNumber"))
            self.assertEqual(told(fixed_from, [0], 21, many), bad("BadRow"))
        for row in BAD_ROWS:
            self.assertEqual(told(fixed_from, row, 0, 1), bad("BadRow"))
        for at in [*NO_INTEGERS, -1, 21]:
            self.assertEqual(told(fixed_from, (0,) * 20, at, 1), bad("BadPlace"))


class Texts(unittest.TestCase):
    def test_every_sign(self):
        self.assertEqual(len(SIGNS), 83)
        for place, sign in enumerate(SIGNS):
            self.assertEqual(text_to(sign), (1, place))
            self.assertEqual(text_from((1, place), 0), (sign, 2))
        self.assertEqual(text_to(SIGNS), (83, *range(83)))
        self.assertEqual(text_from((83, *range(83)), 0), (SIGNS, 84))

    def test_lengths(self):
        self.assertEqual(text_to(""), (0,))
        self.assertEqual(text_from((9, 0, 9), 1), ("", 2))
        for length in (1, 127, 128, 199, 200):
            code = text_to("z" * length)
            self.assertEqual(code, (*number_to(length), *(62,) * length))
            self.assertEqual(text_from((5, *code, 7), 1), ("z" * length, 1 + len(code)))
        self.assertEqual(text_to("z" * 200)[:3], (200, 1, 62))

    def test_wrong_texts(self):
        for value in ANYTHING:
            if not isinstance(value, str):
                with self.subTest(value=value):
                    self.assertEqual(told(text_to, value), bad("BadText"))
        for text in ["z" * 201, "a\n", "\n", "\t", "~", "%", '"', "$", "[", "]", "{", "}", "|", "\\", "^", "`", "\u00e9",
                     "a\u0100", "\x00", "\ud800"]:
            self.assertEqual(told(text_to, text), bad("BadText"))

    def test_wrong_codes(self):
        for row in [(1,), (3, 1, 2), (1, 83), (1, 255), (2, 82, 83), (201, 1, *(0,) * 201), (128, 0), (128, 1, *(0,) * 127),
                    (200, 1, *(0,) * 199), number_to(10 ** 18), (128,)]:
            with self.subTest(row=row):
                self.assertEqual(told(text_from, row, 0), bad("BadCode", at=0))
                self.assertEqual(told(text_from, (4, 4, *row), 2), bad("BadCode", at=2))
        self.assertEqual(text_from((1, 82), 0), ("&", 2))


class Things(unittest.TestCase):
    def test_codes(self):
        for thing, code in [
            (0, (0, 0)), (300, (0, 172, 2)), (10 ** 18, (0, *number_to(10 ** 18))), ("", (1, 0)), ("a 1", (1, 3, 37, 0, 2)),
            ((), (2, 0)), ((5, "a"), (2, 2, 0, 5, 1, 1, 37)), (((),), (2, 1, 2, 0)),
            ((1, ("b", ()), 2), (2, 3, 0, 1, 2, 2, 1, 1, 38, 2, 0, 0, 2)),
            (nested(6), (2, 1) * 5 + (2, 0)), (nested(6, [9]), (2, 1) * 6 + (0, 9)), ((7,) * 40, (2, 40) + (0, 7) * 40),
        ]:
            with self.subTest(thing=thing):
                self.assertEqual(thing_to(thing), code)
                self.assertEqual(thing_from(code, 0), (thing, len(code)))
                self.assertEqual(thing_from((9, 9, *code, 0), 2), (thing, 2 + len(code)))

    def test_wrong_things(self):
        wrong = [
            None, True, False, -1, 10 ** 18 + 1, "~", "z" * 201, [], [1], {}, {1: 2}, (None,), (True,), (1, False), ([],),
            ({},), (-1,), ("~",), (("~",),), (10 ** 18 + 1,), (0,) * 41, ((0,) * 41,), nested(7), nested(7, [1]), nested(30),
            nested(5000), (1, nested(6)), (1, 2, [3]),
        ]
        for value in wrong:
            self.assertEqual(told(thing_to, value), bad("BadThing"))

    def test_codes_that_are_too_long(self):
        longest = tuple("z" * 200 for _ in range(20))
        self.assertEqual(len(thing_to(longest)), 4062)
        fits = (*longest, "z" * 32)
        self.assertEqual(len(thing_to(fits)), 4096)
        self.assertEqual(thing_from(thing_to(fits), 0), (fits, 4096))
        self.assertEqual(told(thing_to, (*longest, "z" * 33)), bad("TooMany", most=4096))
        self.assertEqual(thing_to(((9,) * 40,) * 40), (2, 40) + ((2, 40) + (0, 9) * 40) * 40)
        self.assertEqual(told(thing_to, ((300,) * 40,) * 40), bad("TooMany", most=4096))
        self.assertEqual(told(thing_to, (*longest, "z" * 200, None)), bad("BadThing"))
        self.assertEqual(told(thing_to, (("z" * 200,) * 40, ((("~",),),))), bad("BadThing"))

    def test_wrong_codes_tell_where_the_outermost_begins(self):
        for row in [
            (3,), (255,), (4, 0), (0,), (0, 128), (0, 128, 0), (0, *(255,) * 8, 127), (1,), (1, 1), (1, 1, 83), (1, 201, 1, *(0,) * 201),
            (2,), (2, 1), (2, 2, 0, 5), (2, 1, 3), (2, 1, 0, 128, 0), (2, 1, 1, 1, 83), (2, 41) + (0, 1) * 41,
            (2, 128, 1) + (0, 1) * 128, (2, 129, 0, 0, 1), (2, 1) * 6 + (2, 0), (2, 1) * 7 + (0, 0), (2, 1) * 2000,
            (2, 2, 0, 1, 2, 1, 2, 1, 9), (2, *number_to(10 ** 18)),
        ]:
            with self.subTest(row=row[:12]):
                self.assertEqual(told(thing_from, row, 0), bad("BadCode", at=0))
                self.assertEqual(told(thing_from, (0, 0, 0, *row), 3), bad("BadCode", at=3))
        self.assertEqual(told(thing_from, (), 0), bad("BadCode", at=0))


if __name__ == "__main__":
    unittest.main()
