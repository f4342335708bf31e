import random
import unittest
from itertools import combinations

from cutledger.checksums import check_of, flipped, is_sealed, is_unseen, least_unseen, sealed
from helpers import NO_INTEGERS, NO_TUPLES, bad, told

DIVISOR = (1 << 16) + (1 << 12) + (1 << 5) + 1
BAD_ROWS = NO_TUPLES + [(256,), (-1,), (True,), (None,), ("a",), ((),), ((1,),), (0,) * 4097]
BAD_FLIPS = NO_TUPLES + [
    (-1,), (True,), (None,), ("a",), ((),), (1.5,), (0, 0), (1, 0), (3, 3), (0, 2, 1), (0, True), (5, None),
    tuple(range(65)),
]


def number_of(row):
    """The bits of a row as one integer, its polynomial."""
    value = 0
    for byte in row:
        value = value * 256 + byte
    return value


def rest_bit_by_bit(value):
    """The rest of a polynomial by the divisor."""
    for bit in range(value.bit_length() - 1, 15, -1):
        if value >> bit & 1:
            value ^= DIVISOR << bit - 16
    return value


def check_bit_by_bit(row):
    return rest_bit_by_bit(number_of(row) << 16)


def rows():
    """Rows of many lengths, the same each time."""
    chosen = random.Random(3)
    return [(), (0,), (1,), (128,), (255,), (0, 0), (255,) * 40, (0,) * 4096, (255,) * 200] + [
        tuple(chosen.randrange(256) for _ in range(length)) for length in [1, 2, 3, 5, 8, 16, 61, 122, 128, 300]]


class Examples(unittest.TestCase):
    def test_examples(self):
        self.assertEqual(
            [check_of((1,)), sealed((1,)), is_sealed((1, 16, 33)), flipped((1, 16, 33), (7,)), is_unseen(3, (7,)),
             is_unseen(3, (7, 11, 18, 23))],
            [4129, (1, 16, 33), True, (0, 16, 33), False, True])
        self.assertEqual([least_unseen(2), least_unseen(3)], [None, (4, (0, 4, 11, 16))])


class Checks(unittest.TestCase):
    def test_against_a_division_bit_by_bit(self):
        for row in rows():
            self.assertEqual(check_of(row), check_bit_by_bit(row))
        for byte in range(256):
            self.assertEqual(check_of((byte,)), check_bit_by_bit((byte,)))
            self.assertEqual(check_of((77, byte)), check_bit_by_bit((77, byte)))

    def test_the_known_check_of_nine_figures(self):
        self.assertEqual(check_of(tuple(b"123456789")), 0x31C3)

    def test_no_bytes_and_many(self):
        self.assertEqual(check_of(()), 0)
        self.assertEqual(sealed(()), (0, 0))
        row = tuple(at * 7 % 256 for at in range(4096))
        self.assertEqual(check_of(row), check_bit_by_bit(row))

    def test_sealed_rows(self):
        for row in rows():
            if len(row) <= 4094:
                whole = sealed(row)
                self.assertEqual(whole, (*row, check_bit_by_bit(row) // 256, check_bit_by_bit(row) % 256))
                self.assertIs(is_sealed(whole), True)

    def test_the_longest_that_can_be_sealed(self):
        row = (9,) * 4094
        self.assertEqual(len(sealed(row)), 4096)
        self.assertIs(is_sealed(sealed(row)), True)
        self.assertEqual(told(sealed, (9,) * 4095), bad("TooMany", most=4096))
        self.assertEqual(told(sealed, (9,) * 4096), bad("TooMany", most=4096))
        self.assertEqual(told(sealed, (9,) * 4095 + (256,)), bad("BadRow"))
        self.assertEqual(told(sealed, (9,) * 4097), bad("BadRow"))

    def test_rows_that_are_not_sealed(self):
        for row in [(), (0,), (5,), (0, 1), (1, 0), (1, 16, 32), (1, 33, 16), (0, 0, 1), (255, 255)]:
            self.assertIs(is_sealed(row), False)
        for row in [(0, 0), (0, 0, 0), (1, 16, 33)]:
            self.assertIs(is_sealed(row), True)
        for first in range(256):
            for last in range(0, 256, 5):
                self.assertEqual(is_sealed((9, first, last)), check_of((9,)) == first * 256 + last)

    def test_wrong_rows(self):
        for function in (check_of, sealed, is_sealed):
            for row in BAD_ROWS:
                with self.subTest(function=function.__name__, row=str(row)[:30]):
                    self.assertEqual(told(function, row), bad("BadRow"))


class Flips(unittest.TestCase):
    def test_bits_are_counted_from_the_first(self):
        for bit in range(24):
            changed_bit = number_of(flipped((1, 2, 3), (bit,))) ^ number_of((1, 2, 3))
            self.assertEqual(changed_bit, 1 << 23 - bit)
        self.assertEqual(flipped((), ()), ())
        self.assertEqual(flipped((5, 6), ()), (5, 6))
        self.assertEqual(flipped((0, 0), tuple(range(16))), (255, 255))
        self.assertEqual(flipped((0,) * 8, tuple(range(64))), (255,) * 8)
        self.assertEqual(flipped((0,) * 4096, (0, 32767)), (128, *(0,) * 4094, 1))

    def test_flipping_twice_is_no_change(self):
        chosen = random.Random(4)
        for row in rows():
            flips = tuple(sorted(chosen.sample(range(8 * len(row)), min(64, 3 * len(row)))))
            self.assertEqual(flipped(flipped(row, flips), flips), row)

    def test_wrong_flips(self):
        for flips in BAD_FLIPS:
            with self.subTest(flips=str(flips)[:30]):
                self.assertEqual(told(flipped, (1,) * 40, flips), bad("BadFlips"))
                self.assertEqual(told(flipped, (1, 256), flips), bad("BadRow"))
                self.assertEqual(told(is_unseen, 40, flips), bad("BadFlips"))
                self.assertEqual(told(is_unseen, 1, flips), bad("BadNumber"))
        self.assertEqual(told(flipped, (1, 2), (16,)), bad("BadFlips"))
        self.assertEqual(told(flipped, (1, 2), (3, 15, 16)), bad("BadFlips"))
        self.assertEqual(told(flipped, (), (0,)), bad("BadFlips"))
        self.assertEqual(told(is_unseen, 2, (16,)), bad("BadFlips"))
        self.assertEqual(told(is_unseen, 4096, (32768,)), bad("BadFlips"))
        for row in BAD_ROWS:
            self.assertEqual(told(flipped, row, ()), bad("BadRow"))
            self.assertEqual(told(flipped, row, None), bad("BadRow"))

    def test_wrong_lengths(self):
        for length in [*NO_INTEGERS, -1, 0, 1, 4097, 10 ** 30]:
            self.assertEqual(told(is_unseen, length, ()), bad("BadNumber"))
        for length in [*NO_INTEGERS, -1, 0, 1, 25, 4096, 10 ** 30]:
            self.assertEqual(told(least_unseen, length), bad("BadNumber"))


class UnseenFlips(unittest.TestCase):
    def test_against_flipping_sealed_rows(self):
        chosen = random.Random(5)
        unseen = [(0, 4, 11, 16), (7, 11, 18, 23), (1, 5, 12, 17), (0, 2, 48, 95), ()]
        for length in (2, 3, 4, 7, 12, 13):
            trials = [tuple(sorted(chosen.sample(range(8 * length), many))) for many in range(1, 9) for _ in range(20)]
            for flips in trials + [flips for flips in unseen if not flips or flips[-1] < 8 * length]:
                answer = is_unseen(length, flips)
                for row in [(0,) * (length - 2), tuple(chosen.randrange(256) for _ in range(length - 2))]:
                    self.assertIs(is_sealed(flipped(sealed(row), flips)), answer)

    def test_sums_of_unseen_flips_are_unseen(self):
        for at in range(0, 80, 7):
            shifted = (at, at + 4, at + 11, at + 16)
            self.assertIs(is_unseen(12, shifted), True)
            self.assertIs(is_unseen(12, shifted[:-1]), False)
            self.assertIs(is_unseen(12, (shifted[0], *shifted[2:])), False)

    def test_no_flips_are_unseen(self):
        self.assertIs(is_unseen(2, ()), True)
        self.assertIs(is_unseen(4096, ()), True)

    def test_the_ends_of_the_longest_row(self):
        # x ** 32767 + 1 is a multiple of the divisor, and no such sum with a lesser power is.
        self.assertIs(is_unseen(4096, (0, 32767)), True)
        self.assertIs(is_unseen(4096, (0, 32766)), False)
        self.assertIs(is_unseen(4096, (1, 32767)), False)

    def test_all_small_numbers_within_16_neighboring_bits_are_seen(self):
        for first in (0, 3, 9, 40):
            for many in range(1, 17):
                for others in combinations(range(first, first + 16), many):
                    if others[0] == first and (many < 5 or many > 12):
                        self.assertIs(is_unseen(7, others), False)

    def test_odd_numbers_are_seen(self):
        chosen = random.Random(6)
        for many in range(1, 64, 2):
            flips = tuple(sorted(chosen.sample(range(100), many)))
            self.assertIs(is_unseen(13, flips), False)

    def test_small_numbers_beyond_16_neighboring_bits(self):
        for many in range(1, 5):
            for flips in combinations(range(24), many):
                answer = not rest_bit_by_bit(sum(1 << 23 - flip for flip in flips))
                self.assertIs(is_unseen(3, flips), answer)

    def test_the_fewest_by_trying_out(self):
        for length in (2, 3, 4):
            bits = 8 * length
            rests = [rest_bit_by_bit(1 << bits - 1 - bit) for bit in range(bits)]
            found = None
            for many in range(1, 5):
                for flips in combinations(range(bits), many):
                    rest = 0
                    for flip in flips:
                        rest ^= rests[flip]
                    if rest == 0:
                        found = found or (many, flips)
            self.assertEqual(least_unseen(length), found)

    def test_the_fewest_at_each_length(self):
        for length in range(3, 25):
            bits = 8 * length
            rests = {rest_bit_by_bit(1 << bits - 1 - bit): bit for bit in range(bits)}
            self.assertEqual(len(rests), bits)
            in_order = {bit: rest for rest, bit in rests.items()}
            fours = []
            for second, third in combinations(range(1, bits), 2):
                last = rests.get(in_order[0] ^ in_order[second] ^ in_order[third], -1)
                if last > third:
                    fours.append((0, second, third, last))
            self.assertEqual(least_unseen(length), (4, min(fours)))
            self.assertIs(is_unseen(length, min(fours)), True)


if __name__ == "__main__":
    unittest.main()
