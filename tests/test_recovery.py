import random
import unittest

from cutledger.blocks import block_of, torn
from cutledger.disks import blank_disk
from cutledger.lives import after
from cutledger.recovery import end_of, floor_of, head_of, log_of, recovered, sound, state_as_of, used
from helpers import (
    CHECK, NEVER, NO_INTEGERS, SYNC, bad, blank, head, on_pages, on_ring, page, part, told, with_blocks, write,
)
from model import model_floor, model_head, model_last, model_log, model_told
from scenes import cut_often, random_image, random_shape, with_random_log
from test_disks import BAD_SHAPES, bad_images

SHAPE = (3, 5)
PLAIN = [head_of, log_of, end_of, used, floor_of, recovered, sound]
TORN = torn(NEVER, block_of(9, part(0, 1, 1, 1, 0)), 4)
MOST = 2 ** 32 - 1


def ring(*rows, shape=SHAPE, heads=None):
    """An image with rows (number of the ring's block, label) in its ring, their stamps rising from 20 on."""
    image = with_blocks(shape, on_ring(shape, [(row[0], 20 + at, row[1]) for at, row in enumerate(rows)]))
    image = list(image)
    for place, stamp, label in heads or []:
        image[place] = block_of(stamp, label)
    return tuple(image)


def put(image, place, block):
    return (*image[:place], block, *image[place + 1:])


class Examples(unittest.TestCase):
    def test_examples(self):
        deeds = (write((0, (1, 2)), (2, (5,))), SYNC, write((1, (7,))), CHECK, write((0, ())))
        image = after((3, 4), blank_disk((3, 4)), deeds)
        self.assertEqual(
            [head_of((3, 4), image), log_of((3, 4), image), end_of((3, 4), image), used((3, 4), image)],
            [(0, 1, 2, 3), ((3, 1, 3, ((0, ()),)),), ("other", 0), 1])
        self.assertEqual(
            [recovered((3, 4), image), floor_of((3, 4), image), state_as_of((3, 4), image, 2), sound((3, 4), image)],
            [(3, ((), (7,), (5,))), 2, ((1, 2), (7,), (5,)), True])
        self.assertEqual(told(state_as_of, (3, 4), image, 1), bad("BadCommit"))


class Heads(unittest.TestCase):
    def test_no_head(self):
        self.assertIsNone(head_of(SHAPE, blank_disk(SHAPE)))
        for label in [part(0, 1, 1, 1, 0), page(1, 1, 0), blank(1, 1), head(1, 1, 5), head(1, 1, 65535)]:
            self.assertIsNone(head_of(SHAPE, with_blocks(SHAPE, {0: (3, label), 1: (4, label)})))
        self.assertIsNone(head_of(SHAPE, with_blocks(SHAPE, {2: (3, head(1, 1, 0)), 9: (3, head(1, 1, 0))})))
        self.assertIsNone(head_of(SHAPE, with_blocks(SHAPE, {0: torn(NEVER, block_of(3, head(1, 1, 0)), 7)})))

    def test_one_head(self):
        for place in (0, 1):
            for number in range(5):
                image = with_blocks(SHAPE, {place: (3, head(8, 9, number))})
                self.assertEqual(head_of(SHAPE, image), (place, 8, 9, number))
                for other in [(99, head(1, 2, 5)), (99, part(0, 1, 1, 1, 0)), TORN, (99, blank(9, 9)), (99, page(1, 1, 0))]:
                    image = with_blocks(SHAPE, {place: (3, head(8, 9, number)), 1 - place: other})
                    self.assertEqual(head_of(SHAPE, image), (place, 8, 9, number))
        image = with_blocks((1, 2), {1: (3, ("head", 7, 8, 9, 10, 1, (5, 5)))})
        self.assertEqual(head_of((1, 2), image), (1, 9, 10, 1))

    def test_two_heads(self):
        one, other = head(1, 5, 2), head(7, 3, 4)
        self.assertEqual(head_of(SHAPE, with_blocks(SHAPE, {0: (3, one), 1: (4, other)})), (1, 7, 3, 4))
        self.assertEqual(head_of(SHAPE, with_blocks(SHAPE, {0: (4, one), 1: (3, other)})), (0, 1, 5, 2))
        self.assertEqual(head_of(SHAPE, with_blocks(SHAPE, {0: (256, one), 1: (255, other)})), (0, 1, 5, 2))
        self.assertEqual(head_of(SHAPE, with_blocks(SHAPE, {0: (4, one), 1: (4, other)})), (0, 1, 5, 2))
        self.assertEqual(head_of(SHAPE, with_blocks(SHAPE, {0: (4, head(1, 1, 5)), 1: (4, other)})), (1, 7, 3, 4))
        self.assertEqual(head_of(SHAPE, with_blocks(SHAPE, {0: (MOST, one), 1: (MOST - 1, other)})), (0, 1, 5, 2))


class Logs(unittest.TestCase):
    def test_commits_in_a_row(self):
        image = ring((0, part(0, 1, 1, 1, 2, (5,))), (1, part(0, 2, 1, 2, 0, (6,))), (2, part(1, 2, 1, 2, 1)), (3, part(0, 1, 4, 3, 0)))
        self.assertEqual(
            log_of(SHAPE, image),
            ((1, 1, 0, ((2, (5,)),)), (2, 1, 1, ((0, (6,)), (1, ()))), (3, 4, 3, ((0, ()),))))
        self.assertEqual(end_of(SHAPE, image), ("never", 4))
        self.assertEqual(used(SHAPE, image), 4)
        self.assertEqual(recovered(SHAPE, image), (3, ((), (), (5,))))

    def test_round_the_ring(self):
        heads = [(0, 3, head(2, 6, 3))]
        image = ring(
            (3, part(0, 3, 2, 7, 0, (1,))), (4, part(1, 3, 2, 7, 1, (2,))), (0, part(2, 3, 2, 7, 2, (3,))), (1, part(0, 1, 2, 8, 1)),
            heads=heads)
        self.assertEqual(
            log_of(SHAPE, image), ((7, 2, 3, ((0, (1,)), (1, (2,)), (2, (3,)))), (8, 2, 1, ((1, ()),))))
        self.assertEqual(end_of(SHAPE, image), ("never", 2))
        self.assertEqual(used(SHAPE, image), 4)

    def test_a_full_ring(self):
        rows = [(4, part(0, 2, 1, 4, 0)), (0, part(1, 2, 1, 4, 1))] + [(at, part(0, 1, 1, 4 + at, 0, (at,))) for at in (1, 2, 3)]
        image = ring(*rows, heads=[(1, 3, head(1, 3, 4))])
        self.assertEqual(end_of(SHAPE, image), ("full", None))
        self.assertEqual(used(SHAPE, image), 5)
        self.assertEqual(recovered(SHAPE, image)[0], 7)
        for many in (2, 64):
            shape = (64, many)
            whole = ring(*[(at, part(at, many, 1, 1, at)) for at in range(many)], shape=shape)
            self.assertEqual([end_of(shape, whole), used(shape, whole)], [("full", None), many])

    def test_a_head_tells_epoch_commit_and_number(self):
        first = part(0, 1, 5, 10, 0)
        for told_head, ending in [
            (head(5, 9, 2), ("never", 3)), (head(4, 9, 2), ("never", 3)), (head(6, 9, 2), ("elder", 2)), (head(5, 8, 2), ("other", 2)),
            (head(5, 10, 2), ("other", 2)), (head(5, 9, 1), ("never", 1)),
        ]:
            self.assertEqual(end_of(SHAPE, ring((2, first), heads=[(0, 3, told_head)])), ending)

    def test_the_log_of_a_blank_disk(self):
        for shape in [(1, 2), (64, 64)]:
            image = blank_disk(shape)
            self.assertEqual([head_of(shape, image), log_of(shape, image), end_of(shape, image)], [None, (), ("never", 0)])
            self.assertEqual([used(shape, image), floor_of(shape, image)], [0, 0])
            self.assertEqual(recovered(shape, image), (0, ((),) * shape[0]))

    def test_the_last_commit_that_can_be(self):
        image = ring((0, part(0, 1, 1, MOST, 0)), (1, part(0, 1, 1, 0, 0)), heads=[(0, 3, head(1, MOST - 1, 0))])
        self.assertEqual([recovered(SHAPE, image)[0], end_of(SHAPE, image)], [MOST, ("other", 1)])


class Endings(unittest.TestCase):
    """Each reason for which a log ends, each with a block that shows the later ones too where that can be."""

    def ends_with(self, ending, *rows, shape=SHAPE, heads=None):
        self.assertEqual(end_of(shape, ring(*rows, shape=shape, heads=heads)), ending)

    def test_never(self):
        self.ends_with(("never", 0), (1, part(0, 1, 1, 1, 0)))
        self.ends_with(("never", 1), (0, part(0, 1, 1, 1, 0)), (2, part(0, 1, 1, 2, 0)))

    def test_torn(self):
        image = ring((0, part(0, 1, 1, 1, 0)), (1, part(0, 1, 1, 2, 0)))
        self.assertEqual(end_of(SHAPE, put(image, 5, TORN)), ("torn", 0))
        self.assertEqual(end_of(SHAPE, put(image, 6, TORN)), ("torn", 1))
        self.assertEqual(end_of(SHAPE, put(image, 5, (0,) * 127 + (1,))), ("torn", 0))
        self.assertEqual(end_of(SHAPE, put(image, 7, TORN)), ("torn", 2))

    def test_blank(self):
        self.ends_with(("blank", 0), (0, blank(1, 1)))
        self.ends_with(("blank", 0), (0, ("blank", 0, 1, 9, 1, 0, (1,))))
        self.ends_with(("blank", 1), (0, part(0, 1, 1, 1, 0)), (1, blank(0, 0)))

    def test_other(self):
        for label in [
            page(1, 1, 0), head(1, 1, 0), part(1, 2, 1, 1, 0), part(0, 0, 1, 1, 0), part(0, 1, 1, 0, 0), part(0, 1, 1, 2, 0),
            part(0, 1, 0, 2, 0), part(0, 200, 1, 2, 999), part(1, 1, 1, 1, 0), part(255, 1, 1, 1, 0), part(0, 1, 1, 2 ** 31, 0),
        ]:
            self.ends_with(("other", 0), (0, label))
        self.ends_with(("other", 1), (0, part(0, 1, 1, 1, 0)), (1, part(0, 1, 1, 1, 0)))
        self.ends_with(("other", 1), (0, part(0, 1, 3, 1, 0)), (1, part(0, 1, 1, 3, 0)))

    def test_elder(self):
        self.ends_with(("elder", 0), (0, part(0, 1, 4, 7, 0)), heads=[(0, 3, head(5, 6, 0))])
        self.ends_with(("elder", 1), (0, part(0, 1, 3, 1, 0)), (1, part(0, 1, 2, 2, 0)))
        self.ends_with(("elder", 1), (0, part(0, 1, 3, 1, 0)), (1, part(0, 200, 2, 2, 999)))
        self.ends_with(("never", 2), (0, part(0, 1, 3, 1, 0)), (1, part(0, 1, 3, 2, 0)))
        # The epoch of a part that is 0, without a head, is not a lesser one.
        self.ends_with(("never", 1), (0, part(0, 1, 0, 1, 0)))

    def test_long(self):
        self.ends_with(("long", 0), (0, part(0, 6, 1, 1, 0)))
        self.ends_with(("long", 0), (0, part(0, 255, 1, 1, 999)))
        self.ends_with(("lacks", 1), (0, part(0, 5, 1, 1, 0)))
        self.ends_with(("long", 1), (0, part(0, 1, 1, 1, 0)), (1, part(0, 5, 1, 2, 0)))
        self.ends_with(("lacks", 2), (0, part(0, 1, 1, 1, 0)), (1, part(0, 4, 1, 2, 0)))
        self.ends_with(("long", 2), (4, part(0, 3, 1, 1, 0)), (0, part(1, 3, 1, 1, 1)), (1, part(2, 3, 1, 1, 2)), (2, part(0, 3, 1, 2, 0)),
                       heads=[(0, 3, head(1, 0, 4))])

    def test_lacks(self):
        first = (0, part(0, 3, 2, 1, 0))
        second = (1, part(1, 3, 2, 1, 1))
        self.ends_with(("lacks", 1), first)
        self.ends_with(("lacks", 2), first, second)
        self.ends_with(("lacks", 1), first, (2, part(2, 3, 2, 1, 2)))
        for label in [
            part(2, 3, 2, 1, 1), part(0, 3, 2, 1, 1), part(1, 2, 2, 1, 1), part(1, 4, 2, 1, 1), part(1, 3, 1, 1, 1), part(1, 3, 3, 1, 1),
            part(1, 3, 2, 0, 1), part(1, 3, 2, 2, 1), ("page", 1, 3, 2, 1, 1, ()), ("head", 1, 3, 2, 1, 1, ()),
            ("blank", 1, 3, 2, 1, 1, ()),
        ]:
            self.ends_with(("lacks", 1), first, (1, label), (2, part(2, 3, 2, 1, 2)))
        whole = ring(first, second, (2, part(2, 3, 2, 1, 2)))
        self.assertEqual(end_of(SHAPE, whole), ("never", 3))
        self.assertEqual(end_of(SHAPE, put(whole, 6, TORN)), ("lacks", 1))
        self.assertEqual(end_of(SHAPE, put(whole, 7, NEVER)), ("lacks", 2))
        # Pages that do not rise are told behind a block that lacks.
        self.ends_with(("lacks", 2), first, (1, part(1, 3, 2, 1, 0)))
        self.ends_with(("lacks", 0), (4, part(0, 3, 2, 1, 0)), heads=[(0, 3, head(1, 0, 4))])
        self.ends_with(("lacks", 1), (4, part(0, 3, 2, 1, 0)), (0, part(1, 3, 2, 1, 1)), heads=[(0, 3, head(1, 0, 4))])

    def test_pages(self):
        self.ends_with(("pages", 0), (0, part(0, 1, 1, 1, 3)))
        self.ends_with(("pages", 0), (0, part(0, 1, 1, 1, 65535)))
        self.ends_with(("pages", 0), (0, part(0, 2, 1, 1, 1)), (1, part(1, 2, 1, 1, 1)))
        self.ends_with(("pages", 0), (0, part(0, 2, 1, 1, 2)), (1, part(1, 2, 1, 1, 1)))
        self.ends_with(("pages", 0), (0, part(0, 2, 1, 1, 2)), (1, part(1, 2, 1, 1, 3)))
        self.ends_with(("pages", 4), (4, part(0, 2, 1, 1, 2)), (0, part(1, 2, 1, 1, 1)), heads=[(0, 3, head(1, 0, 4))])
        self.ends_with(("never", 2), (0, part(0, 2, 1, 1, 1)), (1, part(1, 2, 1, 1, 2)))
        self.ends_with(("pages", 1), (0, part(0, 1, 1, 1, 0)), (1, part(0, 1, 1, 2, 64)))

    def test_what_lies_behind_the_end_is_not_read(self):
        image = ring((0, part(0, 1, 1, 1, 0)), (1, blank(1, 1)), (2, part(0, 1, 1, 2, 0)))
        self.assertEqual(len(log_of(SHAPE, image)), 1)


class PagesThatAreTold(unittest.TestCase):
    def image(self):
        """Pages 0 never written, 1 as of commit 3, 2 as of 5; a head of commit 4, the commits 5 to 7 read."""
        changes = {0: (9, head(2, 4, 1)), **on_pages([(1, 5, page(1, 3, 1, (11,))), (2, 6, page(2, 5, 2, (12,)))])}
        changes.update(on_ring(SHAPE, [
            (1, 20, part(0, 1, 2, 5, 2, (52,))), (2, 21, part(0, 2, 2, 6, 0, (60,))), (3, 22, part(1, 2, 2, 6, 1, (61,))),
            (4, 23, part(0, 1, 2, 7, 0, (70,))),
        ]))
        return with_blocks(SHAPE, changes)

    def test_states_from_the_floor_on(self):
        image = self.image()
        self.assertEqual([floor_of(SHAPE, image), used(SHAPE, image), end_of(SHAPE, image)], [5, 4, ("never", 0)])
        self.assertEqual(state_as_of(SHAPE, image, 5), ((), (11,), (52,)))
        self.assertEqual(state_as_of(SHAPE, image, 6), ((60,), (61,), (52,)))
        self.assertEqual(state_as_of(SHAPE, image, 7), ((70,), (61,), (52,)))
        self.assertEqual(recovered(SHAPE, image), (7, ((70,), (61,), (52,))))
        self.assertIs(sound(SHAPE, image), True)

    def test_commits_beyond_both_ends(self):
        for commit in [*NO_INTEGERS, -1, 0, 3, 4, 8, MOST, 10 ** 30]:
            self.assertEqual(told(state_as_of, SHAPE, self.image(), commit), bad("BadCommit"))

    def test_a_page_whose_block_is_later_than_the_head(self):
        # A check that was cut in its midst: page 2 is as of 7 already, and no part of the log has it up to 5.
        image = put(self.image(), 4, block_of(30, page(2, 7, 2, (12,))))
        self.assertEqual(floor_of(SHAPE, image), 5)
        image = put(image, 6, block_of(31, part(0, 1, 2, 5, 1, (52,))))
        self.assertEqual([floor_of(SHAPE, image), state_as_of(SHAPE, image, 7)], [7, ((70,), (61,), (12,))])
        self.assertEqual(told(state_as_of, SHAPE, image, 6), bad("BadCommit"))

    def test_pages_that_the_log_has_may_be_torn(self):
        image = put(put(put(self.image(), 2, TORN), 3, TORN), 4, TORN)
        self.assertEqual([floor_of(SHAPE, image), recovered(SHAPE, image)], [6, (7, ((70,), (61,), (52,)))])
        self.assertEqual(told(state_as_of, SHAPE, image, 5), bad("BadCommit"))

    def test_harm(self):
        base = with_blocks(SHAPE, {0: (9, head(2, 4, 1)), **on_pages([(1, 5, page(1, 3, 1, (11,)))])})
        self.assertEqual(recovered(SHAPE, base), (4, ((), (11,), ())))
        wrong = [
            TORN, block_of(5, page(1, 5, 1)), block_of(5, page(1, 3, 2)), block_of(5, page(1, 3, 65535)), block_of(5, part(0, 1, 1, 3, 1)),
            block_of(5, head(1, 3, 1)), block_of(5, ("blank", 0, 1, 1, 3, 1, ())),
        ]
        for block in wrong:
            image = put(base, 3, block)
            for function in (floor_of, recovered):
                self.assertEqual(told(function, SHAPE, image), bad("Harmed", page=1))
            for commit in (4, 0, None):
                self.assertEqual(told(state_as_of, SHAPE, image, commit), bad("Harmed", page=1))
            self.assertIs(sound(SHAPE, image), False)
            self.assertEqual([head_of(SHAPE, image), log_of(SHAPE, image), used(SHAPE, image)], [(0, 2, 4, 1), (), 0])
            self.assertEqual(end_of(SHAPE, image), ("never", 1))
            self.assertEqual(told(recovered, SHAPE, put(image, 4, TORN)), bad("Harmed", page=1))
            self.assertEqual(told(recovered, SHAPE, put(image, 2, TORN)), bad("Harmed", page=0))
            self.assertEqual(told(recovered, SHAPE, put(base, 4, TORN)), bad("Harmed", page=2))

    def test_the_index_and_the_many_of_a_page_do_not_matter(self):
        image = with_blocks(SHAPE, {3: (9, ("page", 7, 9, 3, 0, 1, (4,)))})
        self.assertEqual(recovered(SHAPE, image), (0, ((), (4,), ())))

    def test_a_page_of_the_commit_of_the_head(self):
        for commit, harm in [(4, False), (5, True), (0, False)]:
            image = with_blocks(SHAPE, {0: (9, head(2, 4, 1)), 3: (5, page(1, commit, 1, (11,)))})
            self.assertEqual(sound(SHAPE, image), not harm)

    def test_the_floor_may_be_the_last_commit(self):
        image = ring((0, part(0, 1, 1, 1, 0)), (1, part(0, 1, 1, 2, 1, (5,))))
        image = put(image, 3, TORN)
        self.assertEqual([floor_of(SHAPE, image), state_as_of(SHAPE, image, 2)], [2, ((), (5,), ())])
        self.assertEqual(told(state_as_of, SHAPE, image, 1), bad("BadCommit"))


class LostCommits(unittest.TestCase):
    def test_parts_left_by_a_lost_commit(self):
        # Commit 2 had three parts of which the first was lost, commit 3 was done; then 2 was written anew.
        image = ring((0, part(0, 1, 1, 1, 0, (1,))), (2, part(1, 3, 1, 2, 1)), (3, part(2, 3, 1, 2, 2)), (4, part(0, 1, 1, 3, 0)))
        self.assertEqual([recovered(SHAPE, image)[0], end_of(SHAPE, image)], [1, ("never", 1)])
        anew = put(image, 6, block_of(90, part(0, 3, 2, 2, 0)))
        self.assertEqual([recovered(SHAPE, anew)[0], end_of(SHAPE, anew)], [1, ("lacks", 2)])
        short = put(image, 6, block_of(90, part(0, 1, 2, 2, 0)))
        self.assertEqual([recovered(SHAPE, short)[0], end_of(SHAPE, short)], [2, ("other", 2)])

    def test_an_elder_commit_behind_a_new_one(self):
        image = ring((0, part(0, 1, 2, 1, 0, (1,))), (1, part(0, 1, 1, 2, 0, (2,))))
        self.assertEqual([recovered(SHAPE, image), end_of(SHAPE, image)], [(1, ((1,), (), ())), ("elder", 1)])

    def test_a_torn_head(self):
        rows = [(0, part(0, 1, 1, 1, 0, (1,))), (1, part(0, 1, 1, 2, 1, (2,)))]
        image = ring(*rows)
        new = block_of(50, head(1, 2, 2))
        for cells in range(9):
            cut = put(image, 0, torn(NEVER, new, cells))
            self.assertEqual(recovered(SHAPE, cut)[0], 2)
            self.assertEqual(sound(SHAPE, cut), True)
            self.assertEqual(head_of(SHAPE, cut), (0, 1, 2, 2) if cells == 8 else None)
            self.assertEqual(recovered(SHAPE, cut)[1], ((1,), (2,), ()) if cells < 8 else ((), (), ()))


class WrongValues(unittest.TestCase):
    def test_shapes_come_first(self):
        for shape in BAD_SHAPES:
            for function in PLAIN:
                self.assertEqual(told(function, shape, None), bad("BadShape"))
                self.assertEqual(told(function, shape, blank_disk((3, 4))), bad("BadShape"))
            self.assertEqual(told(state_as_of, shape, None, None), bad("BadShape"))

    def test_images(self):
        for image, index in bad_images((1, 2)):
            for function in PLAIN:
                self.assertEqual(told(function, (1, 2), image), bad("BadImage", index=index))
            self.assertEqual(told(state_as_of, (1, 2), image, None), bad("BadImage", index=index))


class AgainstTheModel(unittest.TestCase):
    def compare(self, shape, image):
        commits, ending, _ = model_log(shape, image)
        last, floor = model_last(shape, image), model_floor(shape, image)
        self.assertEqual(head_of(shape, image), model_head(shape, image))
        self.assertEqual(log_of(shape, image), tuple(commits))
        self.assertEqual(end_of(shape, image), ending)
        self.assertEqual(used(shape, image), sum(len(row[3]) for row in commits))
        self.assertEqual(sound(shape, image), isinstance(floor, int))
        if isinstance(floor, int):
            self.assertEqual(floor_of(shape, image), floor)
            self.assertEqual(recovered(shape, image), (last, tuple(model_told(shape, image, last))))
            for commit in range(max(0, floor - 2), last + 3):
                if floor <= commit <= last:
                    self.assertEqual(state_as_of(shape, image, commit), tuple(model_told(shape, image, commit)))
                else:
                    self.assertEqual(told(state_as_of, shape, image, commit), bad("BadCommit"))
        else:
            for function in (floor_of, recovered):
                self.assertEqual(told(function, shape, image), bad("Harmed", page=floor[1]))
        return ending[0]

    def test_images_of_any_blocks(self):
        chosen = random.Random(11)
        seen = {}
        for _ in range(1500):
            shape = random_shape(chosen)
            image = random_image(chosen, shape)
            if chosen.randrange(2):
                image = with_random_log(chosen, shape, image)
                if chosen.randrange(2):
                    image = (NEVER, NEVER, *image[2:])
            word = self.compare(shape, image)
            seen[word] = seen.get(word, 0) + 1
        self.assertEqual(
            sorted(seen), ["blank", "elder", "full", "lacks", "long", "never", "other", "pages", "torn"])

    def test_images_that_cuts_left(self):
        chosen = random.Random(12)
        for _ in range(150):
            shape = random_shape(chosen)
            self.compare(shape, cut_often(chosen, shape, chosen.randint(1, 4)))


if __name__ == "__main__":
    unittest.main()
