import unittest

from cutledger.blocks import block_of, torn
from cutledger.disks import (
    blank_disk, blocks, changed, kinds, next_epoch, next_stamp, page_place, ring_place,
)
from helpers import ANYTHING, NEVER, NO_INTEGERS, NO_TUPLES, bad, blank, head, page, part, told, with_blocks
from test_blocks import BAD_BLOCKS, BAD_CONTENTS

MOST = 2 ** 32 - 1
BAD_SHAPES = ANYTHING[:-5] + [
    (1,), (3, 4, 5), [3, 4], (0, 4), (65, 4), (3, 1), (3, 65), (-1, 4), (3, -1), (3, 0), (True, 4), (1, True), (3, None), ("3", 4),
    ((3,), 4), (3, [4]), (10 ** 30, 4), (3, 10 ** 30), ((3, 4),), {3: 4}, {1: 1, 2: 2},
]
BAD_PAGES = BAD_CONTENTS
WITH_IMAGE = [next_stamp, next_epoch, kinds]


def bad_images(shape):
    """Wrong images with the error's index."""
    image = blank_disk(shape)
    wrong = [(value, None) for value in NO_TUPLES]
    wrong += [((), None), (image[1:], None), (image + (NEVER,), None), (list(image), None), (image + image, None), ((None,), None)]
    for at in range(len(image)):
        wrong += [((*image[:at], block, *image[at + 1:]), at) for block in BAD_BLOCKS[::4]]
        wrong += [((*image[:at], *(None,) * (len(image) - at)), at)]
    return wrong + [((block, *image[1:]), 0) for block in BAD_BLOCKS]


class Examples(unittest.TestCase):
    def test_examples(self):
        self.assertEqual(
            [blocks((3, 4)), page_place((3, 4), 1), ring_place((3, 4), 0), next_stamp((3, 4), blank_disk((3, 4))),
             next_epoch((3, 4), blank_disk((3, 4)))], [9, 3, 5, 1, 1])
        self.assertEqual(
            [kinds((1, 2), blank_disk((1, 2))), changed(((), (1,)), ((0, (5,)),))],
            [("never", "never", "never", "never", "never"), ((5,), (1,))])
        self.assertEqual(told(changed, ((), (1,)), ((2, ()),)), bad("BadBatch", index=0))


class Shapes(unittest.TestCase):
    def test_the_least_and_the_greatest(self):
        for shape in [(1, 2), (64, 64), (1, 64), (64, 2)]:
            pages, ring = shape
            self.assertEqual(blocks(shape), 2 + pages + ring)
            self.assertEqual(blank_disk(shape), (NEVER,) * (2 + pages + ring))
            self.assertEqual([page_place(shape, number) for number in range(pages)], list(range(2, 2 + pages)))
            self.assertEqual([ring_place(shape, number) for number in range(ring)], list(range(2 + pages, 2 + pages + ring)))

    def test_wrong_shapes_come_first(self):
        for shape in BAD_SHAPES:
            with self.subTest(shape=shape):
                self.assertEqual(told(blocks, shape), bad("BadShape"))
                self.assertEqual(told(blank_disk, shape), bad("BadShape"))
                for function in (page_place, ring_place, *WITH_IMAGE):
                    self.assertEqual(told(function, shape, None), bad("BadShape"))
                self.assertEqual(told(page_place, shape, 0), bad("BadShape"))

    def test_wrong_numbers(self):
        for shape in [(1, 2), (3, 5), (64, 64)]:
            for number in [*NO_INTEGERS, -1, shape[0], 10 ** 30]:
                self.assertEqual(told(page_place, shape, number), bad("BadNumber"))
            for number in [*NO_INTEGERS, -1, shape[1], 10 ** 30]:
                self.assertEqual(told(ring_place, shape, number), bad("BadNumber"))


class Images(unittest.TestCase):
    def test_wrong_images(self):
        for function in WITH_IMAGE:
            for image, index in bad_images((1, 2)):
                self.assertEqual(told(function, (1, 2), image), bad("BadImage", index=index))

    def test_the_image_of_another_shape(self):
        for function in WITH_IMAGE:
            self.assertEqual(told(function, (3, 4), blank_disk((4, 4))), bad("BadImage", index=None))
            self.assertNotEqual(told(function, (3, 4), blank_disk((4, 3))), bad("BadImage", index=None))

    def test_kinds(self):
        shape = (2, 6)
        whole = block_of(3, part(0, 1, 1, 1, 0))
        image = with_blocks(shape, {
            0: (1, head(1, 0, 0)), 1: torn(NEVER, whole, 3), 2: (9, page(1, 1, 7)), 4: whole, 5: (5, blank(1, 1)),
            6: (5, ("part", 9, 0, 0, 0, 999, ())), 7: (0,) * 127 + (1,), 8: whole[:18] + (5,) + whole[19:], 9: (6, head(1, 1, 999)),
        })
        self.assertEqual(
            kinds(shape, image), ("head", "torn", "page", "never", "part", "blank", "part", "torn", "torn", "head"))

    def test_kinds_do_not_depend_on_places(self):
        for label in [part(0, 1, 1, 1, 0), page(1, 1, 0), head(1, 1, 0), blank(1, 1)]:
            image = (block_of(1, label),) * 5
            self.assertEqual(kinds((1, 2), image), (label[0],) * 5)


class NextStamp(unittest.TestCase):
    def test_the_greatest_of_any_block(self):
        for place in range(7):
            self.assertEqual(next_stamp((2, 3), with_blocks((2, 3), {place: (77, blank(0, 0))})), 78)
        image = with_blocks((2, 3), {0: (9, head(1, 1, 0)), 3: (12, page(1, 1, 1)), 6: (10, part(0, 1, 1, 1, 0))})
        self.assertEqual(next_stamp((2, 3), image), 13)

    def test_first_and_last_stamps_of_torn_blocks(self):
        one = block_of(5, blank(0, 0))
        two = block_of(900, blank(0, 0))
        for cells in range(1, 9):
            self.assertEqual(next_stamp((1, 2), with_blocks((1, 2), {3: torn(one, two, cells)})), 901)
            self.assertEqual(next_stamp((1, 2), with_blocks((1, 2), {3: torn(two, one, cells)})), 901 if cells < 8 else 6)

    def test_the_edge(self):
        self.assertEqual(next_stamp((1, 2), with_blocks((1, 2), {3: (MOST - 1, blank(0, 0))})), MOST)
        self.assertEqual(
            told(next_stamp, (1, 2), with_blocks((1, 2), {3: (MOST, blank(0, 0))})), bad("TooMany", most=MOST))
        for rows in [(255,) * 4 + (0,) * 124, (0,) * 124 + (255,) * 4]:
            self.assertEqual(told(next_stamp, (1, 2), with_blocks((1, 2), {0: rows})), bad("TooMany", most=MOST))
        image = with_blocks((1, 2), {3: (MOST, blank(0, 0))})
        self.assertEqual(told(next_stamp, (1, 2), image[:4] + (None,)), bad("BadImage", index=4))


class NextEpoch(unittest.TestCase):
    def test_whole_parts_pages_and_heads(self):
        for label in [part(0, 1, 7, 1, 0), page(7, 1, 0), head(7, 1, 0), ("part", 9, 0, 7, 0, 999, ()), head(7, 1, 999)]:
            for place in range(5):
                self.assertEqual(next_epoch((1, 2), with_blocks((1, 2), {place: (3, label)})), 8)
        image = with_blocks((1, 2), {0: (9, head(5, 1, 0)), 2: (12, page(6, 1, 0)), 4: (10, part(0, 1, 4, 1, 0))})
        self.assertEqual(next_epoch((1, 2), image), 7)

    def test_blanks_and_torn_blocks_do_not_count(self):
        whole = block_of(3, part(0, 1, 7, 1, 0))
        for block in [block_of(3, blank(7, 1)), torn(NEVER, whole, 7), whole[:127] + (9,)]:
            self.assertEqual(next_epoch((1, 2), with_blocks((1, 2), {3: block})), 1)
            self.assertEqual(next_epoch((1, 2), with_blocks((1, 2), {3: block, 0: (1, head(2, 0, 0))})), 3)
        self.assertEqual(next_epoch((1, 2), with_blocks((1, 2), {3: (1, blank(MOST, 1))})), 1)

    def test_the_edge(self):
        self.assertEqual(next_epoch((1, 2), with_blocks((1, 2), {3: (1, part(0, 1, MOST - 1, 0, 0))})), MOST)
        self.assertEqual(next_epoch((1, 2), with_blocks((1, 2), {3: (MOST, part(0, 1, 0, 0, 0))})), 1)
        for label in [part(0, 1, MOST, 1, 0), page(MOST, 1, 0), head(MOST, 1, 0)]:
            image = with_blocks((1, 2), {3: (1, label)})
            self.assertEqual(told(next_epoch, (1, 2), image), bad("TooMany", most=MOST))
            self.assertEqual(told(next_epoch, (1, 2), (None,) + image[1:]), bad("BadImage", index=0))


class Batches(unittest.TestCase):
    def test_changed(self):
        state = ((1,), (2,), (3,))
        self.assertEqual(changed(state, ((1, (9, 9)),)), ((1,), (9, 9), (3,)))
        self.assertEqual(changed(state, ((0, ()), (2, (5,)))), ((), (2,), (5,)))
        self.assertEqual(changed(state, ((0, (0,)), (1, (1,)), (2, (255,) * 96))), ((0,), (1,), (255,) * 96))
        self.assertEqual(state, ((1,), (2,), (3,)))

    def test_the_greatest(self):
        state = ((),) * 64
        batch = tuple((number, (number,) * 96) for number in range(64))
        self.assertEqual(changed(state, batch), tuple((number,) * 96 for number in range(64)))
        self.assertEqual(changed(state, ((63, (1,)),)), ((),) * 63 + ((1,),))

    def test_wrong_states_come_first(self):
        wrong = NO_TUPLES + [(), ((),) * 65, ((), None), (1,), [()], ((), []), ("",)] + [((), wrong) for wrong in BAD_PAGES]
        for state in wrong:
            with self.subTest(state=str(state)[:30]):
                self.assertEqual(told(changed, state, ((0, ()),)), bad("BadState"))
                self.assertEqual(told(changed, state, None), bad("BadState"))

    def test_no_tuple_of_so_many_things(self):
        for batch in NO_TUPLES + [(), tuple((number, ()) for number in range(65)), (None,) * 65, [(0, ())]]:
            self.assertEqual(told(changed, ((),) * 64, batch), bad("BadBatch", index=None))

    def test_the_first_wrong_pair(self):
        for pair in [None, True, 1, "", "ab", (), (0,), (1, (), ()), [1, ()], {1: ()}, ((1, ()),), (None, ()), (True, ()), (-1, ()),
                     (64, ()), ("1", ()), ((1,), ()), ([], ()), (0, ()), *((1, wrong) for wrong in BAD_PAGES)]:
            with self.subTest(pair=str(pair)[:30]):
                state = ((),) * 64
                self.assertEqual(told(changed, state, ((0, ()), pair)), bad("BadBatch", index=1))
                self.assertEqual(told(changed, state, ((0, ()), pair, None)), bad("BadBatch", index=1))
                if pair != (0, ()):
                    self.assertEqual(told(changed, state, (pair, (5, ()))), bad("BadBatch", index=0))

    def test_numbers_that_do_not_rise(self):
        state = ((),) * 64
        self.assertEqual(told(changed, state, ((1, ()), (2, ()), (2, ()))), bad("BadBatch", index=2))
        self.assertEqual(told(changed, state, ((1, ()), (3, ()), (2, ()), (1, ()))), bad("BadBatch", index=2))
        self.assertEqual(told(changed, state, ((63, ()), (0, ()))), bad("BadBatch", index=1))

    def test_pages_that_the_state_has_not(self):
        self.assertEqual(told(changed, ((),) * 3, ((0, ()), (2, ()), (3, ()), (4, ()))), bad("BadBatch", index=2))
        self.assertEqual(told(changed, ((),), ((63, ()),)), bad("BadBatch", index=0))
        # What is no batch comes ahead of pages that are not there.
        self.assertEqual(told(changed, ((),), ((5, ()), (5, ()))), bad("BadBatch", index=1))
        self.assertEqual(told(changed, ((),), ((5, ()), (6, ()), None)), bad("BadBatch", index=2))
        self.assertEqual(told(changed, ((),), ((5, ()), (64, ()))), bad("BadBatch", index=1))


if __name__ == "__main__":
    unittest.main()
