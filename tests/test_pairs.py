import random
import unittest
from fractions import Fraction
from itertools import product

from cutledger.blocks import block_of, is_never, label_of, stamps_of, torn
from cutledger.cuts import cut_image, promise, waiting
from cutledger.disks import blank_disk, kinds
from cutledger.lives import after, steps
from cutledger.odds import ways
from cutledger.pairs import harmed, joined, pair_chances, pair_images, pair_ways, scars
from cutledger.recovery import recovered
from helpers import ANYTHING, CHECK, NEVER, NO_INTEGERS, NO_TUPLES, SYNC, TIDY, bad, blank, head, page, part, told, with_blocks, write
from model import model_last, model_told
from scenes import cut_often, random_cut, random_deeds, random_fates, random_shape
from test_cuts import small_lives
from test_disks import BAD_SHAPES, bad_images
from test_lives import bad_deeds
from test_odds import BAD_RATIOS

SHAPE = (3, 4)
BLANK = blank_disk(SHAPE)
DEEDS = (write((0, (1, 2)), (2, (5,))), SYNC, write((1, (7,))))
MOST = 2 ** 32 - 1


class Examples(unittest.TestCase):
    def test_examples(self):
        deeds = (("write", ((0, (1, 2)), (2, (5,)))),)
        one, other = pair_images(SHAPE, BLANK, deeds, (2, (8, 0), (3, 8)))
        self.assertEqual(
            [recovered(SHAPE, one)[0], recovered(SHAPE, other)[0], recovered(SHAPE, joined(SHAPE, one, other))[0], scars(SHAPE, one, other)],
            [0, 0, 1, ((1, 5), (0, 6))])
        self.assertEqual([pair_ways(SHAPE, BLANK, deeds, 2), pair_chances(SHAPE, BLANK, deeds, 2, (1, 2))],
                         [((0, 6272), (1, 289)), ((0, (7, 16)), (1, (9, 16)))])
        image = after(SHAPE, BLANK, deeds)
        self.assertEqual(
            [recovered(SHAPE, harmed(SHAPE, image, ((5, (40,)),)))[0],
             joined(SHAPE, harmed(SHAPE, image, ((5, (40,)),)), harmed(SHAPE, image, ((6, (7, 9)),))) == image], [0, True])
        self.assertEqual(told(harmed, SHAPE, image, ((7, (1,)),)), bad("BadHarm", index=0))


def slow_joined(one, other):
    """Point 19 straight from its words, block by block."""
    blocks = []
    for mine, its in zip(one, other):
        whole = [block for block in (mine, its) if label_of(block)]
        if len(whole) == 2:
            blocks.append(its if stamps_of(its)[0] > stamps_of(mine)[0] else mine)
        elif whole:
            blocks.append(whole[0])
        else:
            blocks.append(([block for block in (mine, its) if is_never(block)] + [mine])[0])
    return tuple(blocks)


class Joined(unittest.TestCase):
    def test_place_by_place(self):
        old, new = block_of(3, part(0, 1, 1, 1, 0, (1,))), block_of(9, part(0, 1, 1, 1, 0, (2,)))
        same_stamp = block_of(9, page(1, 1, 0))
        broken, worse = torn(old, new, 4), torn(NEVER, new, 2)
        rows = [
            (old, old, old), (old, new, new), (new, old, new), (new, same_stamp, new), (same_stamp, new, same_stamp), (old, broken, old), (broken, old, old),
            (old, NEVER, old), (NEVER, old, old), (NEVER, NEVER, NEVER), (NEVER, broken, NEVER), (broken, NEVER, NEVER), (broken, worse, broken), (worse, broken, worse),
            (new, worse, new), (worse, new, new), (block_of(5, blank(0, 0)), block_of(4, head(1, 1, 0)), block_of(5, blank(0, 0))),
        ]
        for place in range(9):
            for mine, its, right in rows:
                one, other = with_blocks(SHAPE, {place: mine}), with_blocks(SHAPE, {place: its})
                self.assertEqual(joined(SHAPE, one, other), with_blocks(SHAPE, {place: right}))
                marks = tuple((disk, place) for disk, block in ((0, mine), (1, its)) if block != right)
                self.assertEqual(scars(SHAPE, one, other), marks)

    def test_any_images(self):
        for seed in range(40):
            chosen = random.Random(9000 + seed)
            shape = random_shape(chosen)
            one, other = cut_often(chosen, shape, 4), cut_often(chosen, shape, 4)
            told_together = joined(shape, one, other)
            self.assertEqual(told_together, slow_joined(one, other))
            self.assertEqual((joined(shape, one, one), scars(shape, one, one)), (one, ()))
            right = [(disk, place) for place in range(len(one)) for disk in (0, 1) if (one, other)[disk][place] != told_together[place]]
            self.assertEqual(scars(shape, one, other), tuple(right))


class Cuts(unittest.TestCase):
    def test_each_disk_has_what_a_cut_leaves(self):
        for seed in range(60):
            chosen = random.Random(9100 + seed)
            shape = random_shape(chosen)
            image = cut_often(chosen, shape, 3)
            deeds = random_deeds(chosen, shape, image, 8)
            count = chosen.randint(0, len(steps(shape, image, deeds)))
            many = len(waiting(shape, image, deeds, count))
            one, other = random_fates(chosen, many), random_fates(chosen, many)
            pair = pair_images(shape, image, deeds, (count, one, other))
            self.assertEqual(pair, (cut_image(shape, image, deeds, (count, one)), cut_image(shape, image, deeds, (count, other))))

    def test_what_comes_back(self):
        """From S to W, and just as far as all parts are done on one disk at least."""
        spread = 0
        for seed in range(250):
            chosen = random.Random(9200 + seed)
            shape = random_shape(chosen)
            image = cut_often(chosen, shape, chosen.randint(0, 4))
            deeds = random_deeds(chosen, shape, image, 8, "wwwwwwwc")
            count = chosen.choice((chosen.randint(0, len(steps(shape, image, deeds))), len(steps(shape, image, deeds))))
            many = len(waiting(shape, image, deeds, count))
            one, other = (tuple(chosen.choice((0, 8, 8, chosen.randrange(9))) for _ in range(many)) for _ in range(2))
            pair = pair_images(shape, image, deeds, (count, one, other))
            together = joined(shape, *pair)
            commit, state = recovered(shape, together)
            merged = tuple(8 if 8 in fates else 0 for fates in zip(one, other))
            self.assertEqual((commit, state), recovered(shape, cut_image(shape, image, deeds, (count, merged))))
            self.assertEqual((commit, list(state)), (model_last(shape, together), model_told(shape, together, commit)))
            safe, whole = promise(shape, image, deeds, count)
            self.assertTrue(safe <= commit <= whole)
            for alone in pair:
                self.assertLessEqual(recovered(shape, alone)[0], commit)
            spread += commit > max(recovered(shape, alone)[0] for alone in pair)
        self.assertGreater(spread, 5)

    def test_again_and_again(self):
        """Lives on two disks that begin with what they told together."""
        for seed in range(40):
            chosen = random.Random(9300 + seed)
            shape = random_shape(chosen)
            image, batches = blank_disk(shape), []
            for _ in range(6):
                deeds = random_deeds(chosen, shape, image, 8)
                count, one = random_cut(chosen, shape, image, deeds)
                pair = pair_images(shape, image, deeds, (count, one, random_fates(chosen, len(one))))
                safe, whole = promise(shape, image, deeds, count)
                image = joined(shape, *pair)
                commit, state = recovered(shape, image)
                self.assertTrue(len(batches) <= safe <= commit <= whole)
                batches = (batches + [deed[1] for deed in deeds if deed[0] == "write"])[:commit]
                right = [()] * shape[0]
                for batch in batches:
                    for number, one_page in batch:
                        right[number] = one_page
                self.assertEqual(list(state), right)


class Ways(unittest.TestCase):
    FATES = ((0, 1), (3, 7), (8, 1))

    def tried_out(self, shape, image, deeds, count):
        """For each commit, with how many pairs of fates it comes back; the fates that tear count as one, seven times."""
        many = len(waiting(shape, image, deeds, count))
        images = [(weights(fates), cut_image(shape, image, deeds, (count, tuple(fate for fate, _ in fates))))
                  for fates in product(self.FATES, repeat=many)]
        found = {}
        for first, one in images:
            for second, other in images:
                commit = recovered(shape, slow_joined(one, other))[0]
                found[commit] = found.get(commit, 0) + first * second
        return tuple(sorted(found.items()))

    def test_trying_out(self):
        known = {}
        for image, deeds, life in list(small_lives())[::3]:
            for count in range(len(life) + 1):
                if len(waiting(SHAPE, image, deeds, count)) <= 2:
                    key = (image, life[:count])
                    if key not in known:
                        known[key] = self.tried_out(SHAPE, image, deeds, count)
                    self.assertEqual(pair_ways(SHAPE, image, deeds, count), known[key])
        self.assertGreater(len(known), 30)

    def test_trying_out_three_blocks(self):
        deeds = (write((0, (1,)), (1, (2,))), write((2, (3,))))
        self.assertEqual(pair_ways(SHAPE, BLANK, deeds, 3), self.tried_out(SHAPE, BLANK, deeds, 3))
        self.assertEqual(pair_ways(SHAPE, BLANK, deeds, 3), ((0, 81 * (81 * 81 - 17 * 17)), (1, 17 * 17 * 64), (2, 17 ** 3)))

    def test_all_fates(self):
        deeds = (write((0, (1,))), write((2, (5,))))
        for count, many in ((0, 0), (1, 1), (2, 2)):
            found = {}
            for one in product(range(9), repeat=many):
                for other in product((0, 5, 8), repeat=many):
                    weight = 1
                    for fate in other:
                        weight *= 7 if fate == 5 else 1
                    pair = pair_images(SHAPE, BLANK, deeds, (count, one, other))
                    commit = recovered(SHAPE, joined(SHAPE, *pair))[0]
                    found[commit] = found.get(commit, 0) + weight
            self.assertEqual(pair_ways(SHAPE, BLANK, deeds, count), tuple(sorted(found.items())))

    def test_chances(self):
        for image, deeds, life in list(small_lives())[::5]:
            for count in range(0, len(life) + 1, 2):
                all_ways = ways(SHAPE, image, deeds, count)
                self.assertEqual([commit for commit, _ in pair_ways(SHAPE, image, deeds, count)], [commit for commit, _ in all_ways])
                for sure in [(0, 1), (1, 1), (1, 2), (2, 7), (99, 100)]:
                    chance = Fraction(*sure)
                    done = 1 - (1 - chance) ** 2
                    found = self.by_parts(image, deeds, count, done)
                    answer = pair_chances(SHAPE, image, deeds, count, sure)
                    self.assertEqual([(commit, Fraction(*ratio)) for commit, ratio in answer], found)
                    for _, ratio in answer:
                        self.assertEqual(ratio, (Fraction(*ratio).numerator, Fraction(*ratio).denominator))
                    self.assertEqual(sum(Fraction(*ratio) for _, ratio in answer), 1)

    def by_parts(self, image, deeds, count, done):
        """For each commit the chance that just it comes back, by each choice of blocks that are done on a disk at least."""
        many = len(waiting(SHAPE, image, deeds, count))
        safe, whole = promise(SHAPE, image, deeds, count)
        found = {commit: Fraction(0) for commit in range(safe, whole + 1)}
        for fates in product((0, 8), repeat=many):
            commit = recovered(SHAPE, cut_image(SHAPE, image, deeds, (count, fates)))[0]
            found[commit] += done ** fates.count(8) * (1 - done) ** fates.count(0)
        return sorted(found.items())


def weights(fates):
    weight = 1
    for _, one in fates:
        weight *= one
    return weight


class Harm(unittest.TestCase):
    def setUp(self):
        deeds = (write((0, (1, 2)), (2, (5,))), CHECK, write((1, (255,) * 96)), TIDY)
        self.image = after(SHAPE, BLANK, deeds)
        self.places = [place for place, kind in enumerate(kinds(SHAPE, self.image)) if kind not in ("never", "torn")]

    def test_kinds_of_blocks(self):
        self.assertEqual({kinds(SHAPE, self.image)[place] for place in self.places}, {"part", "page", "head", "blank"})

    def test_a_harmed_block_is_not_whole(self):
        for place in self.places:
            for first in range(0, 1024, 7):
                for flips in [(first,), tuple(range(first, min(first + 16, 1024))), (first, min(first + 15, 1023)) if first < 1023 else (first,)]:
                    answer = harmed(SHAPE, self.image, ((place, flips),))
                    self.assertIsNone(label_of(answer[place]))
                    self.assertEqual(answer[:place] + answer[place + 1:], self.image[:place] + self.image[place + 1:])
                    self.assertEqual(harmed_by_hand(self.image[place], flips), answer[place])

    def test_any_flips_near_the_ends_of_fields(self):
        chosen = random.Random(9400)
        for _ in range(3000):
            first = chosen.choice((0, 16, 31, 32, 40, 48, 56, 60, 140, 900, 905, 911, 960, 970, 975, 976, 980, 990, 991, 992, 1000, 1008))
            flips = tuple(sorted(chosen.sample(range(first, min(first + 16, 1024)), chosen.randint(1, min(16, 1024 - first)))))
            place = chosen.choice(self.places)
            self.assertIsNone(label_of(harmed(SHAPE, self.image, ((place, flips),))[place]))

    def test_many_places(self):
        harm = tuple((place, (place, place + 9)) for place in self.places)
        answer = harmed(SHAPE, self.image, harm)
        self.assertTrue(all(label_of(answer[place]) is None for place in self.places))
        self.assertEqual(harmed(SHAPE, self.image, ()), self.image)
        self.assertEqual(joined(SHAPE, answer, self.image), self.image)

    def test_harm_on_both_disks_but_never_at_one_place(self):
        for seed in range(100):
            chosen = random.Random(9500 + seed)
            shape = random_shape(chosen)
            image = cut_often(chosen, shape, 3)
            whole = [place for place, kind in enumerate(kinds(shape, image)) if kind not in ("never", "torn")]
            harms = ([], [])
            for place in whole:
                disk = chosen.randrange(3)
                if disk < 2:
                    first = chosen.randrange(1024)
                    few = sorted(chosen.sample(range(first, min(first + 16, 1024)), chosen.randint(1, min(16, 1024 - first))))
                    harms[disk].append((place, tuple(few)))
            one, other = (harmed(shape, image, tuple(harm)) for harm in harms)
            self.assertEqual(joined(shape, one, other), image)
            right = sorted([(place, disk) for disk, harm in enumerate(harms) for place, _ in harm])
            self.assertEqual(scars(shape, one, other), tuple((disk, place) for place, disk in right))

    def test_harm_at_one_place_on_both(self):
        image = after(SHAPE, BLANK, DEEDS)
        one, other = harmed(SHAPE, image, ((7, (3,)),)), harmed(SHAPE, image, ((7, (400,)),))
        self.assertEqual(joined(SHAPE, one, other), one)
        self.assertEqual((recovered(SHAPE, one)[0], recovered(SHAPE, image)[0]), (1, 2))
        self.assertEqual(scars(SHAPE, one, other), ((1, 7),))

    def test_no_harm(self):
        for value in [*NO_TUPLES, ((7, (1,)),) * 41, [(7, (1,))], tuple((place, (1,)) for place in range(41))]:
            self.assertEqual(told(harmed, SHAPE, self.image, value), bad("BadHarm", index=None))

    def test_wrong_pairs(self):
        place = self.places[0]
        wrong = [*NO_TUPLES, (), (place,), (place, (1,), 1), [place, (1,)]]
        wrong += [(value, (1,)) for value in [*NO_INTEGERS, -1, 9, 10 ** 30]]
        wrong += [(place, flips) for flips in [
            *NO_TUPLES, (), [1], (1, 1), (2, 1), (0, 16), (5, 9, 21), (1024,), (1010, 1024), (-1,), (10 ** 30,), (True,), (None,), (1, "2"), (1.5,), ((1,),),
            tuple(range(17)), (0, *range(2, 17)), tuple(range(1008, 1025)), tuple(range(100, 117)),
        ]]
        for pair in wrong:
            self.assertEqual(told(harmed, SHAPE, self.image, (pair,)), bad("BadHarm", index=0), pair)
            self.assertEqual(told(harmed, SHAPE, self.image, (pair, None)), bad("BadHarm", index=0))
        later = self.places[2]
        for pair in [*wrong[::3], (later, (1,)), (self.places[1], (1,)), (place, (1,))]:
            first, second = (self.places[1], (5,)), (later, (0, 15))
            self.assertEqual(told(harmed, SHAPE, self.image, (first, second, pair)), bad("BadHarm", index=2), pair)

    def test_flips_at_the_limit(self):
        place = self.places[-1]
        for flips in [(0, 15), (1008, 1023), tuple(range(16)), tuple(range(1008, 1024)), (1023,), (0,), (100, 103, 115)]:
            self.assertIsNone(label_of(harmed(SHAPE, self.image, ((place, flips),))[place]))

    def test_blocks_that_are_not_whole(self):
        image = cut_image(SHAPE, BLANK, DEEDS, (2, (5, 8)))
        for place, kind in enumerate(kinds(SHAPE, image)):
            answer = told(harmed, SHAPE, image, ((place, (1,)),))
            self.assertEqual(answer == bad("BadHarm", index=0), kind in ("never", "torn"), place)
        again = harmed(SHAPE, image, ((6, (1,)),))
        self.assertEqual(told(harmed, SHAPE, again, ((6, (1,)),)), bad("BadHarm", index=0))

    def test_forty_places(self):
        shape = (38, 2)
        image = after(shape, after(shape, blank_disk(shape), (write((0, ())), CHECK)), ())
        for number in range(1, 38):
            image = after(shape, image, (write((number, (number,))), CHECK))
        places = [place for place, kind in enumerate(kinds(shape, image)) if kind != "never"]
        self.assertGreaterEqual(len(places), 41)
        answer = harmed(shape, image, tuple((place, (5,)) for place in places[:40]))
        self.assertEqual([place for place in places if label_of(answer[place])], places[40:])
        self.assertEqual(told(harmed, shape, image, tuple((place, (5,)) for place in places[:41])), bad("BadHarm", index=None))


def harmed_by_hand(block, flips):
    bits = [byte >> (7 - at) & 1 for byte in block for at in range(8)]
    for flip in flips:
        bits[flip] = 1 - bits[flip]
    return tuple(sum(bits[8 * at + place] << (7 - place) for place in range(8)) for at in range(128))


class WrongValues(unittest.TestCase):
    CALLS = [(pair_images, (None,)), (pair_ways, (None,)), (pair_chances, (None, None))]

    def test_what_comes_ahead(self):
        harmed_one = (NEVER, NEVER, (0,) * 127 + (1,), *BLANK[3:])
        full = (write((0, ()), (1, ()), (2, ())),) * 2
        for call, rest in self.CALLS:
            for shape in BAD_SHAPES:
                self.assertEqual(told(call, shape, None, None, *rest), bad("BadShape"))
            for image, index in bad_images((1, 2))[::5]:
                self.assertEqual(told(call, (1, 2), image, None, *rest), bad("BadImage", index=index))
            for deeds, index in bad_deeds(SHAPE):
                self.assertEqual(told(call, SHAPE, BLANK, deeds, *rest), bad("BadDeeds", index=index))
            self.assertEqual(told(call, SHAPE, harmed_one, None, *rest), bad("Harmed", page=0))
            self.assertEqual(told(call, SHAPE, BLANK, full, *rest), bad("RingFull", index=1))

    def test_two_images(self):
        for call in (joined, scars):
            for shape in BAD_SHAPES:
                self.assertEqual(told(call, shape, None, None), bad("BadShape"))
            good = blank_disk((1, 2))
            for image, index in bad_images((1, 2)):
                self.assertEqual(told(call, (1, 2), image, None), bad("BadImage", index=index))
                self.assertEqual(told(call, (1, 2), good, image), bad("BadImage", index=index))
        for shape in BAD_SHAPES:
            self.assertEqual(told(harmed, shape, None, None), bad("BadShape"))
        for image, index in bad_images((1, 2))[::3]:
            self.assertEqual(told(harmed, (1, 2), image, None), bad("BadImage", index=index))

    def test_images_that_do_not_come_back_may_be_joined_and_harmed(self):
        spoilt = (NEVER, NEVER, (0,) * 127 + (1,), *BLANK[3:])
        self.assertEqual(joined(SHAPE, spoilt, BLANK), BLANK)
        self.assertEqual(scars(SHAPE, spoilt, BLANK), ((0, 2),))
        self.assertEqual(harmed(SHAPE, spoilt, ()), spoilt)

    def test_cuts(self):
        wrong = [*NO_TUPLES, (), (2,), (2, (8, 8)), (2, (8, 8), (8, 8), ()), [2, (8, 8), (8, 8)], (4, (8,), (8, 8)), (4, (8, 8), (8,))]
        wrong += [(count, (), ()) for count in [*NO_INTEGERS, -1, 5, 10 ** 30]]
        for fates in [*NO_TUPLES, (), (8,), (8, 8, 8), [8, 8], (8, 9), (-1, 8), (True, 8), (8, None), ("8", 8), (10 ** 30, 8)]:
            wrong += [(2, fates, (8, 8)), (2, (8, 8), fates)]
        for cut in wrong:
            self.assertEqual(told(pair_images, SHAPE, BLANK, DEEDS, cut), bad("BadCut"), cut)

    def test_counts_and_ratios(self):
        for count in [*NO_INTEGERS, -1, 5, 10 ** 30]:
            self.assertEqual(told(pair_ways, SHAPE, BLANK, DEEDS, count), bad("BadCount"))
            self.assertEqual(told(pair_chances, SHAPE, BLANK, DEEDS, count, None), bad("BadCount"))
        for sure in BAD_RATIOS:
            self.assertEqual(told(pair_chances, SHAPE, BLANK, DEEDS, 2, sure), bad("BadRatio"))
            self.assertEqual(told(pair_chances, SHAPE, BLANK, DEEDS, 0, sure), bad("BadRatio"))

    def test_too_many_comes_last(self):
        image = with_blocks(SHAPE, {8: (MOST - 1, blank(0, 0))})
        deeds = (write((0, ())), SYNC, write((1, ())))
        too_many = bad("TooMany", most=MOST)
        self.assertEqual(told(pair_ways, SHAPE, image, deeds, 2), too_many)
        self.assertEqual(told(pair_ways, SHAPE, image, deeds, 4), bad("BadCount"))
        self.assertEqual(told(pair_chances, SHAPE, image, deeds, 2, (1, 2)), too_many)
        self.assertEqual(told(pair_chances, SHAPE, image, deeds, 2, (2, 4)), bad("BadRatio"))
        self.assertEqual(told(pair_images, SHAPE, image, deeds, (2, (), ())), too_many)
        self.assertEqual(told(pair_images, SHAPE, image, deeds, (2, (), None)), bad("BadCut"))


class Tidied(unittest.TestCase):
    def test_blanks_on_two_disks(self):
        deeds = (write((0, (1,))), CHECK, TIDY, write((1, (2,))))
        image = after(SHAPE, BLANK, deeds)
        self.assertEqual(joined(SHAPE, image, BLANK), image)
        self.assertEqual(joined(SHAPE, BLANK, image), image)


if __name__ == "__main__":
    unittest.main()
