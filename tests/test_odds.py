import random
import unittest
from collections import Counter
from fractions import Fraction
from math import gcd

from cutledger.cuts import promise, waiting
from cutledger.disks import blank_disk
from cutledger.lives import after, steps
from cutledger.odds import chances, mean_lost, ways
from helpers import ANYTHING, CHECK, NEVER, NO_INTEGERS, SYNC, TIDY, bad, blank, told, with_blocks, write
from model import model_chances, model_outcomes, model_waits, pair_of
from test_cuts import small_lives
from test_disks import BAD_SHAPES, bad_images
from test_lives import bad_deeds

SHAPE = (3, 4)
BLANK = blank_disk(SHAPE)
DEEDS = (write((0, (1, 2)), (2, (5,))), SYNC, write((1, (7,))))
MOST = 2 ** 32 - 1
SURE = [(0, 1), (1, 1), (1, 2), (1, 3), (5, 7), (99, 100)]
BAD_RATIOS = [value for value in ANYTHING if value != (1, 2)] + [
    (0, 0), (0, 2), (2, 2), (2, 4), (3, 9), (-1, 2), (1, -2), (-1, -2), (2, 1), (3, 2), (1, 0), (0, -1), (True, 1), (1, True),
    (False, 1), (0, True), (1, 2, 3), (1,), [1, 2], (None, 1), (1, None), ("1", "2"), ((1, 2),), ((1,), 2), (1, []), {1: 2},
    (10 ** 30, 10 ** 30), (10 ** 30 + 1, 10 ** 30),
]


class Examples(unittest.TestCase):
    def test_examples(self):
        self.assertEqual(
            [ways(SHAPE, BLANK, DEEDS, 2), chances(SHAPE, BLANK, DEEDS, 2, (1, 2)), mean_lost(SHAPE, BLANK, DEEDS, 2, (1, 2))],
            [((0, 80), (1, 1)), ((0, (3, 4)), (1, (1, 4))), (3, 4)])


class TryingOut(unittest.TestCase):
    def test_all_fates_of_small_lives(self):
        known = {}
        for image, deeds, life in small_lives():
            for count in range(len(life) + 1):
                many = len(model_waits(life, count)[1])
                if many > 3:
                    continue
                key = (image, life[:count])
                if key not in known:
                    known[key] = Counter(model_outcomes(SHAPE, image, life, count).values())
                self.assertEqual(ways(SHAPE, image, deeds, count), tuple(sorted(known[key].items())))
                self.assertEqual(sum(known[key].values()), 9 ** many)

    def test_chances(self):
        known = {}
        for image, deeds, life in small_lives():
            for count in range(len(life) + 1):
                for sure in SURE:
                    key = (image, life[:count], sure)
                    if key not in known:
                        known[key] = model_chances(SHAPE, image, life, count, sure)
                    expected = known[key]
                    whole = promise(SHAPE, image, deeds, count)[1]
                    answer = chances(SHAPE, image, deeds, count, sure)
                    self.assertEqual(answer, tuple((commit, pair_of(expected[commit])) for commit in sorted(expected)))
                    self.assertEqual(sum(Fraction(*chance) for _, chance in answer), 1)
                    mean = sum(chance * (whole - commit) for commit, chance in expected.items())
                    self.assertEqual(mean_lost(SHAPE, image, deeds, count, sure), pair_of(Fraction(mean)))


class Ways(unittest.TestCase):
    def test_commits_in_a_row(self):
        deeds = (write((0, ())), write((0, ()), (1, ())), write((2, ())))
        self.assertEqual(ways(SHAPE, BLANK, deeds, 0), ((0, 1),))
        self.assertEqual(ways(SHAPE, BLANK, deeds, 1), ((0, 8), (1, 1)))
        self.assertEqual(ways(SHAPE, BLANK, deeds, 2), ((0, 72), (1, 9)))
        self.assertEqual(ways(SHAPE, BLANK, deeds, 3), ((0, 648), (1, 80), (2, 1)))
        self.assertEqual(ways(SHAPE, BLANK, deeds, 4), ((0, 8 * 9 ** 3), (1, 80 * 9), (2, 8), (3, 1)))

    def test_blanks_pages_and_heads_that_wait(self):
        deeds = (write((0, (1,)), (1, (2,))), CHECK, write((0, (3,))), TIDY)
        self.assertEqual([ways(SHAPE, BLANK, deeds, count) for count in (3, 5, 6, 7, 8)],
                         [((1, 1),), ((1, 81),), ((1, 1),), ((1, 9),), ((1, 1),)])
        self.assertEqual([ways(SHAPE, BLANK, deeds, count) for count in (9, 10, 11, 12)],
                         [((1, 8), (2, 1)), ((1, 72), (2, 9)), ((1, 648), (2, 81)), ((2, 1),)])

    def test_the_greatest_disk(self):
        shape = (64, 64)
        batch = tuple((number, (number,) * 96) for number in range(64))
        deeds = (("write", batch), CHECK, *[write((number, (1,))) for number in range(38)])
        image = blank_disk(shape)
        self.assertEqual(ways(shape, image, deeds, 64), ((0, 9 ** 64 - 1), (1, 1)))
        self.assertEqual(ways(shape, image, deeds, 65), ((1, 1),))
        self.assertEqual(ways(shape, image, deeds, 63), ((0, 9 ** 63),))
        self.assertEqual(ways(shape, image, deeds, 129), ((1, 9 ** 64),))
        count = len(steps(shape, image, deeds))
        self.assertEqual(ways(shape, image, deeds, count), (
            *[(1 + at, 8 * 9 ** (37 - at)) for at in range(38)], (39, 1)))

    def test_their_sum(self):
        chosen = random.Random(41)
        shape = (6, 30)
        for _ in range(20):
            deeds = tuple(
                write(*[(number, ()) for number in range(chosen.randint(1, 5))]) if chosen.randrange(5) else SYNC for _ in range(6))
            count = chosen.randint(0, len(steps(shape, blank_disk(shape), deeds)))
            numbers = ways(shape, blank_disk(shape), deeds, count)
            self.assertEqual(sum(many for _, many in numbers), 9 ** len(waiting(shape, blank_disk(shape), deeds, count)))
            safe, whole = promise(shape, blank_disk(shape), deeds, count)
            self.assertEqual([commit for commit, _ in numbers], list(range(safe, whole + 1)))


class Chances(unittest.TestCase):
    DEEDS = (write((0, ())), SYNC, write((0, ()), (1, ())), write((2, ())))

    def test_never_and_surely(self):
        self.assertEqual(chances(SHAPE, BLANK, self.DEEDS, 5, (0, 1)), ((1, (1, 1)), (2, (0, 1)), (3, (0, 1))))
        self.assertEqual(chances(SHAPE, BLANK, self.DEEDS, 5, (1, 1)), ((1, (0, 1)), (2, (0, 1)), (3, (1, 1))))
        self.assertEqual(mean_lost(SHAPE, BLANK, self.DEEDS, 5, (0, 1)), (2, 1))
        self.assertEqual(mean_lost(SHAPE, BLANK, self.DEEDS, 5, (1, 1)), (0, 1))

    def test_between(self):
        self.assertEqual(
            chances(SHAPE, BLANK, self.DEEDS, 5, (2, 3)), ((1, (5, 9)), (2, (4, 27)), (3, (8, 27))))
        self.assertEqual(mean_lost(SHAPE, BLANK, self.DEEDS, 5, (2, 3)), (34, 27))
        self.assertEqual(chances(SHAPE, BLANK, self.DEEDS, 4, (2, 3)), ((1, (5, 9)), (2, (4, 9))))
        self.assertEqual(mean_lost(SHAPE, BLANK, self.DEEDS, 4, (2, 3)), (5, 9))

    def test_where_nothing_waits(self):
        for sure in SURE:
            for count in (0, 2):
                last = count // 2
                self.assertEqual(chances(SHAPE, BLANK, self.DEEDS, count, sure), ((last, (1, 1)),))
                self.assertEqual(mean_lost(SHAPE, BLANK, self.DEEDS, count, sure), (0, 1))

    def test_blocks_that_are_no_whole_commits_do_not_matter(self):
        for sure in SURE:
            self.assertEqual(chances(SHAPE, BLANK, self.DEEDS, 3, sure), ((1, (1, 1)),))
            self.assertEqual(mean_lost(SHAPE, BLANK, self.DEEDS, 3, sure), (0, 1))

    def test_exact_and_in_lowest_terms(self):
        shape = (64, 64)
        deeds = tuple(write((number, ()), (number + 1, ())) for number in range(32))
        sure = (10 ** 40 + 1, 10 ** 40 + 3)
        self.assertEqual(gcd(*sure), 1)
        answer = chances(shape, blank_disk(shape), deeds, 64, sure)
        one = Fraction(*sure)
        self.assertEqual([commit for commit, _ in answer], list(range(33)))
        for commit, chance in answer:
            right = one ** (2 * commit) * (1 if commit == 32 else 1 - one ** 2)
            self.assertEqual(chance, pair_of(right))
            self.assertEqual(gcd(*chance), 1)
        mean = sum(Fraction(*chance) * (32 - commit) for commit, chance in answer)
        self.assertEqual(mean_lost(shape, blank_disk(shape), deeds, 64, sure), pair_of(mean))

    def test_in_a_second_life(self):
        image = after(SHAPE, BLANK, DEEDS)
        self.assertEqual(chances(SHAPE, image, (write((0, ())),), 1, (1, 4)), ((2, (3, 4)), (3, (1, 4))))


class WrongValues(unittest.TestCase):
    CALLS = [(ways, ()), (chances, (None,)), (mean_lost, (None,))]

    def test_what_comes_ahead(self):
        harmed = (NEVER, NEVER, (0,) * 127 + (1,), *BLANK[3:])
        full = (write((0, ()), (1, ()), (2, ())),) * 2
        for call, rest in self.CALLS:
            for shape in BAD_SHAPES:
                self.assertEqual(told(call, shape, None, None, None, *rest), bad("BadShape"))
            for image, index in bad_images((1, 2))[::5]:
                self.assertEqual(told(call, (1, 2), image, None, None, *rest), bad("BadImage", index=index))
            for deeds, index in bad_deeds(SHAPE):
                self.assertEqual(told(call, SHAPE, BLANK, deeds, None, *rest), bad("BadDeeds", index=index))
            self.assertEqual(told(call, SHAPE, harmed, None, None, *rest), bad("Harmed", page=0))
            self.assertEqual(told(call, SHAPE, BLANK, full, None, *rest), bad("RingFull", index=1))

    def test_counts(self):
        for call, rest in self.CALLS:
            for count in [*NO_INTEGERS, -1, 5, 10 ** 30]:
                self.assertEqual(told(call, SHAPE, BLANK, DEEDS, count, *rest), bad("BadCount"))

    def test_ratios(self):
        for call in (chances, mean_lost):
            for sure in BAD_RATIOS:
                with self.subTest(sure=sure):
                    self.assertEqual(told(call, SHAPE, BLANK, DEEDS, 2, sure), bad("BadRatio"))
                    self.assertEqual(told(call, SHAPE, BLANK, DEEDS, 0, sure), bad("BadRatio"))

    def test_too_many_comes_last(self):
        image = with_blocks(SHAPE, {8: (MOST - 1, blank(0, 0))})
        deeds = (write((0, ())), SYNC, write((1, ())))
        too_many = bad("TooMany", most=MOST)
        for call in (chances, mean_lost):
            self.assertEqual(told(call, SHAPE, image, deeds, 2, (1, 2)), too_many)
            self.assertEqual(told(call, SHAPE, image, deeds, 2, (2, 4)), bad("BadRatio"))
            self.assertEqual(told(call, SHAPE, image, deeds, 4, (2, 4)), bad("BadCount"))
        self.assertEqual(told(ways, SHAPE, image, deeds, 2), too_many)
        self.assertEqual(told(ways, SHAPE, image, deeds, 4), bad("BadCount"))


if __name__ == "__main__":
    unittest.main()
