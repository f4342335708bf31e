import random
import unittest

from cutledger.blocks import block_of
from cutledger.cuts import cut_image, waiting
from cutledger.disks import blank_disk
from cutledger.leaving import can_leave, count_images, cut_to
from cutledger.lives import after, steps
from helpers import CHECK, NEVER, SYNC, TIDY, all_fates, bad, blank, part, told, with_blocks, write
from model import model_cut, model_waits
from scenes import cut_often, random_cut, random_deeds, random_shape
from test_cuts import small_lives
from test_disks import BAD_SHAPES, bad_images
from test_lives import bad_deeds

SHAPE = (3, 4)
BLANK = blank_disk(SHAPE)
DEEDS = (write((0, (1, 2)), (2, (5,))), SYNC)
MOST = 2 ** 32 - 1
WITH_OTHER = [can_leave, cut_to]


def all_left(image, life, most=4):
    """Each image that cuts leave with the first cut that does, trying out all of them."""
    found = {}
    for count in range(len(life) + 1):
        many = len(model_waits(life, count)[1])
        if many > most:
            raise AssertionError("too many to try out")
        for fates in all_fates(many):
            found.setdefault(model_cut(image, life, count, fates), (count, fates))
    return found


def nearly(image):
    """Images with one block, or one byte, that is another."""
    for place, block in enumerate(image):
        for other in [NEVER, block_of(1, part(0, 1, 1, 1, 0)), image[(place + 1) % len(image)]]:
            yield (*image[:place], other, *image[place + 1:])
        for at in [0, 3, 5, 17, 18, 40, 100, 123, 124, 127]:
            byte = (block[at] + 1) % 256
            yield (*image[:place], (*block[:at], byte, *block[at + 1:]), *image[place + 1:])


class Examples(unittest.TestCase):
    def test_examples(self):
        image = after(SHAPE, BLANK, DEEDS)
        self.assertEqual(
            [can_leave(SHAPE, BLANK, DEEDS, image), cut_to(SHAPE, BLANK, DEEDS, image), cut_to(SHAPE, image, DEEDS, BLANK)],
            [True, (2, (8, 8)), None])
        self.assertEqual(count_images(SHAPE, BLANK, DEEDS), 16)


class TryingOut(unittest.TestCase):
    def compare(self, image, deeds, life):
        found = all_left(image, life)
        self.assertEqual(count_images(SHAPE, image, deeds), len(found))
        for other, cut in found.items():
            self.assertEqual(cut_to(SHAPE, image, deeds, other), cut)
            self.assertIs(can_leave(SHAPE, image, deeds, other), True)
            self.assertEqual(cut_image(SHAPE, image, deeds, cut), other)
        return found

    def test_all_cuts_of_small_lives(self):
        for image, deeds, life in small_lives():
            if max(len(waiting(SHAPE, image, deeds, count)) for count in range(len(life) + 1)) <= 3:
                with self.subTest(deeds=deeds):
                    self.compare(image, deeds, life)

    def test_images_that_no_cut_leaves(self):
        chosen = random.Random(71)
        for image, deeds, life in list(small_lives())[::3]:
            if max(len(waiting(SHAPE, image, deeds, count)) for count in range(len(life) + 1)) > 3:
                continue
            found = all_left(image, life)
            for other in chosen.sample(sorted(found), min(len(found), 2)):
                for changed in nearly(other):
                    self.assertEqual(cut_to(SHAPE, image, deeds, changed), found.get(changed))
                    self.assertIs(can_leave(SHAPE, image, deeds, changed), changed in found)

    def test_no_deeds(self):
        for image in [BLANK, after(SHAPE, BLANK, DEEDS), cut_image(SHAPE, BLANK, DEEDS, (2, (4, 8)))]:
            self.assertEqual(cut_to(SHAPE, image, (), image), (0, ()))
            self.assertEqual(count_images(SHAPE, image, ()), 1)
            self.assertEqual(count_images(SHAPE, image, (SYNC, SYNC)), 1)
            for changed in nearly(image):
                if changed != image:
                    self.assertIsNone(cut_to(SHAPE, image, (), changed))

    def test_fates_that_leave_the_same_block(self):
        # On a blank disk a part of two bytes has noughts in the cells 2 to 6: fates 2 to 7 leave the same.
        deeds = (write((0, (1, 2))),)
        life = steps(SHAPE, BLANK, deeds)
        for fate, least in [(0, (0, ())), (1, (1, (1,))), (2, (1, (2,))), (3, (1, (2,))), (6, (1, (2,))), (7, (1, (2,))), (8, (1, (8,)))]:
            self.assertEqual(cut_to(SHAPE, BLANK, deeds, model_cut(BLANK, life, 1, (fate,))), least)
        self.assertEqual(count_images(SHAPE, BLANK, deeds), 4)

    def test_blocks_over_those_of_a_life_before(self):
        image = after((2, 3), blank_disk((2, 3)), (write((0, (1, 2)), (1, (3,) * 96)), CHECK))
        for deeds in [(TIDY,), (write((1, (3,) * 96)), TIDY), (write((1, (4,) * 96)), SYNC, TIDY, CHECK)]:
            life = steps((2, 3), image, deeds)
            found = all_left(image, life)
            self.assertEqual(count_images((2, 3), image, deeds), len(found))
            for other, cut in list(found.items())[::7]:
                self.assertEqual(cut_to((2, 3), image, deeds, other), cut)

    def test_any_lives(self):
        chosen = random.Random(72)
        for _ in range(80):
            shape = random_shape(chosen)
            image = cut_often(chosen, shape, chosen.randint(0, 3))
            deeds = random_deeds(chosen, shape, image, 8)
            count, fates = random_cut(chosen, shape, image, deeds)
            other = cut_image(shape, image, deeds, (count, fates))
            least = cut_to(shape, image, deeds, other)
            self.assertEqual(cut_image(shape, image, deeds, least), other)
            self.assertTrue(least <= (count, fates))
            life = steps(shape, image, deeds)
            for fewer in range(least[0]):
                # Fates are free for each block, so another image is left if each of its blocks is left by some fate.
                many = len(model_waits(life, fewer)[1])
                images = [model_cut(image, life, fewer, (fate,) * many) for fate in range(9)]
                self.assertFalse(all(block in blocks for block, *blocks in zip(other, *images)))

    def test_the_number_of_images_of_a_long_life(self):
        batch = tuple((number, (255,) * 96) for number in range(10))
        shape = (10, 10)
        parts = 1
        for _, _, block in steps(shape, blank_disk(shape), (("write", batch),)):
            parts *= 1 + sum(any(block[at:at + 16]) for at in range(0, 128, 16))
        self.assertEqual(parts, 9 ** 10)
        self.assertEqual(count_images(shape, blank_disk(shape), (("write", batch),)), 9 ** 10)
        self.assertEqual(count_images(shape, blank_disk(shape), (("write", batch), SYNC, SYNC)), 9 ** 10)
        checked = count_images(shape, blank_disk(shape), (("write", batch), CHECK))
        # A head of commit 1 at the ring's block 0 has noughts in all cells but the first and the last one.
        self.assertEqual(checked, 9 ** 10 + (9 ** 10 - 1) + (3 - 1))


class WrongValues(unittest.TestCase):
    def calls(self):
        return [(can_leave, (None,)), (cut_to, (None,)), (count_images, ())]

    def test_what_comes_ahead_of_the_other_image(self):
        harmed = (NEVER, NEVER, (0,) * 127 + (1,), *BLANK[3:])
        full = (write((0, ()), (1, ()), (2, ())),) * 2
        for call, rest in self.calls():
            for shape in BAD_SHAPES:
                self.assertEqual(told(call, shape, None, None, *rest), bad("BadShape"))
            for image, index in bad_images((1, 2)):
                self.assertEqual(told(call, (1, 2), image, None, *rest), bad("BadImage", index=index))
            for deeds in [DEEDS, None, full]:
                self.assertEqual(told(call, SHAPE, harmed, deeds, *rest), bad("Harmed", page=0))
            for deeds, index in bad_deeds(SHAPE):
                self.assertEqual(told(call, SHAPE, BLANK, deeds, *rest), bad("BadDeeds", index=index))
            self.assertEqual(told(call, SHAPE, BLANK, full, *rest), bad("RingFull", index=1))

    def test_other_images(self):
        for call in WITH_OTHER:
            for other, index in bad_images((1, 2)):
                self.assertEqual(told(call, (1, 2), blank_disk((1, 2)), (SYNC,), other), bad("BadImage", index=index))
            self.assertEqual(told(call, SHAPE, BLANK, DEEDS, blank_disk((3, 5))), bad("BadImage", index=None))

    def test_another_image_may_be_harmed(self):
        harmed = (NEVER, NEVER, (0,) * 127 + (1,), *BLANK[3:])
        self.assertIs(can_leave(SHAPE, BLANK, DEEDS, harmed), False)
        self.assertIsNone(cut_to(SHAPE, BLANK, DEEDS, harmed))

    def test_too_many_comes_last(self):
        image = with_blocks(SHAPE, {8: (MOST - 1, blank(0, 0))})
        deeds = (write((0, ())), SYNC, write((1, ())))
        for call in WITH_OTHER:
            self.assertEqual(told(call, SHAPE, image, deeds, image), bad("TooMany", most=MOST))
            self.assertEqual(told(call, SHAPE, image, deeds, BLANK[1:]), bad("BadImage", index=None))
            self.assertEqual(told(call, SHAPE, image, (*deeds, None), BLANK), bad("BadDeeds", index=3))
        self.assertEqual(told(count_images, SHAPE, image, deeds), bad("TooMany", most=MOST))
        self.assertEqual(cut_to(SHAPE, image, deeds[:2], image), (0, ()))


if __name__ == "__main__":
    unittest.main()
