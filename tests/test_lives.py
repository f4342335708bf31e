import random
import unittest

from cutledger.blocks import block_of, label_of, stamps_of, torn
from cutledger.disks import blank_disk, next_epoch, next_stamp
from cutledger.lives import after, ends, steps
from cutledger.recovery import end_of, floor_of, head_of, log_of, recovered, used
from helpers import (
    ANYTHING, CHECK, NEVER, NO_TUPLES, SYNC, TIDY, bad, blank, fails, head, on_pages, on_ring, page, part, told, with_blocks, write,
)
from model import model_steps
from scenes import cut_often, random_deeds, random_image, random_shape, with_random_log
from test_disks import BAD_PAGES, BAD_SHAPES, bad_images

SHAPE = (3, 5)
BLANK = blank_disk(SHAPE)
MOST = 2 ** 32 - 1
CALLS = [steps, ends, after]


def short(life):
    """Steps as pairs of place and label, and None for a sync."""
    return [None if step == SYNC else (step[1], label_of(step[2])) for step in life]


def stamps(life):
    return [stamps_of(step[2])[0] for step in life if step != SYNC]


def bad_deeds(shape):
    """Wrong deeds with the error's index, and deeds that are right behind them in mind."""
    wrong = [(value, None) for value in NO_TUPLES] + [((SYNC,) * 41, None), ([SYNC], None), ((None,) * 41, None)]
    deeds = ANYTHING[:-4] + [
        (), ("sync", ()), ("sync", "sync"), ["sync"], ("Sync",), ("syncs",), ("write",), ("write", ((0, ()),), ()), ("check", 1),
        ("tidy", None), (b"sync",), ("cut",), (None,), (1,), (("sync",),), ("write", ()), ("write", [(0, ())]), ("write", None),
        ("write", ((0, ()), (0, ()))), ("write", ((1, ()), (0, ()))), ("write", ((shape[0], ()),)), ("write", ((64, ()),)),
        ("write", ((-1, ()),)), ("write", ((True, ()),)), ("write", ((0, ()), (shape[0], ()))), ("write", "0"), ("write", ((0,),)),
        ("write", (0, ())), ("write", {0: ()}), ("check", ((0, ()),)), ("write", (None,)), (["sync"],), ({"write": 1}, ()),
    ]
    deeds += [("write", ((0, wrong_page),)) for wrong_page in BAD_PAGES]
    wrong += [((deed,), 0) for deed in deeds]
    wrong += [((SYNC, CHECK, deed, None), 2) for deed in deeds[::3]]
    return wrong + [((SYNC,) * 39 + (None,), 39)]


class Examples(unittest.TestCase):
    def test_examples(self):
        blank_one = blank_disk((3, 4))
        deeds = (write((0, (1, 2)), (2, (5,))), SYNC, write((1, (7,))), CHECK, write((0, ())))
        self.assertEqual(
            [ends((3, 4), blank_one, deeds), steps((3, 4), blank_one, deeds[1:2])], [(2, 3, 4, 11, 12), (("sync",),)])
        self.assertEqual(
            [(step[1], label_of(step[2])) for step in steps((3, 4), blank_one, deeds[:1])],
            [(5, ("part", 0, 2, 1, 1, 0, (1, 2))), (6, ("part", 1, 2, 1, 1, 2, (5,)))])
        self.assertEqual(told(after, (3, 2), blank_disk((3, 2)), deeds), bad("RingFull", index=2))


class Deeds(unittest.TestCase):
    def test_no_deeds(self):
        self.assertEqual([call(SHAPE, BLANK, ()) for call in CALLS], [(), (), BLANK])

    def test_a_write(self):
        life = steps(SHAPE, BLANK, (write((0, (1,)), (2, ())), write((1, (255,) * 96))))
        self.assertEqual(
            short(life),
            [(5, part(0, 2, 1, 1, 0, (1,))), (6, part(1, 2, 1, 1, 2)), (7, part(0, 1, 1, 2, 1, (255,) * 96))])
        self.assertEqual(stamps(life), [1, 2, 3])
        self.assertEqual(life[0], ("block", 5, block_of(1, part(0, 2, 1, 1, 0, (1,)))))

    def test_writes_go_round_the_ring(self):
        deeds = (write((0, ()), (1, ()), (2, ())), CHECK, write((0, ()), (1, ()), (2, ())), write((0, ()), (1, ())))
        life = steps(SHAPE, BLANK, deeds)
        self.assertEqual(
            short(life)[-5:], [(8, part(0, 3, 1, 2, 0)), (9, part(1, 3, 1, 2, 1)), (5, part(2, 3, 1, 2, 2)),
                               (6, part(0, 2, 1, 3, 0)), (7, part(1, 2, 1, 3, 1))])

    def test_syncs(self):
        self.assertEqual(steps(SHAPE, BLANK, (SYNC, SYNC)), (SYNC, SYNC))
        self.assertEqual(ends(SHAPE, BLANK, (SYNC, SYNC)), (1, 2))
        self.assertEqual(after(SHAPE, BLANK, (SYNC,)), BLANK)

    def test_a_check(self):
        deeds = (write((0, (1,)), (2, (2,))), write((0, (3,))), CHECK)
        life = steps(SHAPE, BLANK, deeds)
        self.assertEqual(
            short(life)[3:],
            [None, (2, page(1, 2, 0, (3,))), (4, page(1, 2, 2, (2,))), None, (0, head(1, 2, 3)), None])
        self.assertEqual(stamps(life), [1, 2, 3, 4, 5, 6])

    def test_checks_take_turns_and_tell_no_page_twice(self):
        deeds = (CHECK, write((1, (1,))), CHECK, CHECK, write((2, (2,))), CHECK)
        self.assertEqual(
            short(steps(SHAPE, BLANK, deeds)),
            [None, None, (0, head(1, 0, 0)), None,
             (5, part(0, 1, 1, 1, 1, (1,))), None, (3, page(1, 1, 1, (1,))), None, (1, head(1, 1, 1)), None,
             None, None, (0, head(1, 1, 1)), None,
             (6, part(0, 1, 1, 2, 2, (2,))), None, (4, page(1, 2, 2, (2,))), None, (1, head(1, 2, 2)), None])
        self.assertEqual(ends(SHAPE, BLANK, deeds), (4, 5, 10, 14, 15, 20))

    def test_a_check_empties_the_ring(self):
        full = write((0, ()), (1, ()), (2, ()))
        deeds = (full, write((0, ()), (1, ())), CHECK, full, write((0, ()), (1, ())))
        image = after(SHAPE, BLANK, deeds)
        self.assertEqual([used(SHAPE, image), end_of(SHAPE, image), recovered(SHAPE, image)[0]], [5, ("full", None), 4])
        self.assertEqual(told(after, SHAPE, BLANK, (*deeds, write((0, ())))), bad("RingFull", index=5))
        self.assertEqual(told(after, SHAPE, BLANK, (*deeds, CHECK, full, full)), bad("RingFull", index=7))

    def test_a_tidy(self):
        deeds = (write((0, (1,)), (1, (2,))), CHECK, write((2, (3,))), TIDY)
        life = steps(SHAPE, BLANK, deeds)
        # Block 2 has the commit since the head, the blocks 3 and 4 were never written.
        self.assertEqual(short(life)[-4:], [(7, part(0, 1, 1, 2, 2, (3,))), (5, blank(1, 2)), (6, blank(1, 2)), None])
        self.assertEqual(steps(SHAPE, after(SHAPE, BLANK, deeds), (TIDY,)), (SYNC,))
        self.assertEqual(steps(SHAPE, BLANK, (TIDY, TIDY)), (SYNC, SYNC))

    def test_a_tidy_goes_once_round_from_the_next_block(self):
        rows = [(at, 20 + at, part(0, 1, 1, 100 + at, 0)) for at in range(5)]
        image = with_blocks(SHAPE, {1: (3, head(2, 6, 3)), **on_ring(SHAPE, rows)})
        self.assertEqual(
            short(steps(SHAPE, image, (TIDY,))),
            [(8, blank(3, 6)), (9, blank(3, 6)), (5, blank(3, 6)), (6, blank(3, 6)), (7, blank(3, 6)), None])
        self.assertEqual(
            short(steps(SHAPE, image, (write((0, ()), (1, ())), TIDY)))[2:],
            [(5, blank(3, 7)), (6, blank(3, 7)), (7, blank(3, 7)), None])

    def test_a_tidy_leaves_never_written_blocks_and_blanks(self):
        torn_one = torn(NEVER, block_of(9, part(0, 1, 1, 1, 0)), 3)
        torn_blank = torn(NEVER, block_of(9, blank(1, 1)), 3)
        image = with_blocks(SHAPE, {5: torn_one, 6: (8, ("blank", 3, 4, 5, 6, 7, (8,))), 7: torn_blank, 9: (7, head(1, 1, 0))})
        self.assertEqual(short(steps(SHAPE, image, (TIDY,))), [(5, blank(2, 0)), (7, blank(2, 0)), (9, blank(2, 0)), None])
        again = after(SHAPE, image, (TIDY,))
        self.assertEqual(steps(SHAPE, again, (TIDY,)), (SYNC,))

    def test_deeds_of_all_kinds_behind_one_another(self):
        deeds = (TIDY, CHECK, write((0, (1,))), TIDY, CHECK, TIDY, SYNC, TIDY)
        self.assertEqual(
            short(steps(SHAPE, BLANK, deeds)),
            [None, None, None, (0, head(1, 0, 0)), None, (5, part(0, 1, 1, 1, 0, (1,))), None, None, (2, page(1, 1, 0, (1,))), None,
             (1, head(1, 1, 1)), None, (5, blank(1, 1)), None, None, None])
        self.assertEqual(ends(SHAPE, BLANK, deeds), (1, 5, 6, 7, 12, 14, 15, 16))

    def test_forty_deeds(self):
        deeds = (write((0, (7,))), CHECK) * 20
        image = after(SHAPE, BLANK, deeds)
        self.assertEqual(recovered(SHAPE, image), (20, ((7,), (), ())))
        self.assertEqual(head_of(SHAPE, image), (1, 1, 20, 0))
        self.assertEqual(ends(SHAPE, BLANK, (SYNC,) * 40), tuple(range(1, 41)))
        self.assertEqual(told(ends, SHAPE, BLANK, (SYNC,) * 41), bad("BadDeeds", index=None))

    def test_the_greatest_disk(self):
        shape = (64, 64)
        batch = tuple((number, (number,) * 96) for number in range(64))
        deeds = (("write", batch), CHECK, ("write", batch), CHECK, TIDY)
        life = steps(shape, blank_disk(shape), deeds)
        self.assertEqual(ends(shape, blank_disk(shape), deeds), (64, 132, 196, 264, 329))
        self.assertEqual(stamps(life), list(range(1, 64 * 5 + 3)))
        image = after(shape, blank_disk(shape), deeds)
        self.assertEqual(recovered(shape, image), (2, tuple(page for _, page in batch)))


class SecondLives(unittest.TestCase):
    def test_it_goes_on(self):
        image = after(SHAPE, BLANK, (write((0, (1,)), (1, (2,))), SYNC, write((1, (3,)))))
        life = steps(SHAPE, image, (write((2, (4,))), CHECK))
        self.assertEqual(
            short(life),
            [(8, part(0, 1, 2, 3, 2, (4,))), None, (2, page(2, 3, 0, (1,))), (3, page(2, 3, 1, (3,))), (4, page(2, 3, 2, (4,))), None,
             (0, head(2, 3, 4)), None])
        self.assertEqual(stamps(life), list(range(4, 9)))
        self.assertEqual(told(steps, SHAPE, image, (write((0, ()), (1, ()), (2, ())),)), bad("RingFull", index=0))

    def test_the_head_takes_turns_across_lives(self):
        image = BLANK
        for life in range(1, 6):
            image = after(SHAPE, image, (write((0, (life,))), CHECK))
            self.assertEqual(head_of(SHAPE, image), (1 - life % 2, life, life, life % 5))

    def test_the_first_stamp_and_epoch(self):
        old = block_of(70, part(0, 1, 8, 50, 0))
        image = with_blocks(SHAPE, {9: torn(NEVER, old, 2), 8: (66, part(0, 1, 5, 50, 0)), 7: (60, blank(9, 9))})
        life = steps(SHAPE, image, (write((0, ())),))
        self.assertEqual([stamps(life), short(life)], [[71], [(5, part(0, 1, 6, 1, 0))]])
        self.assertEqual([next_stamp(SHAPE, image), next_epoch(SHAPE, image)], [71, 6])

    def test_a_torn_head_is_written_again(self):
        image = after(SHAPE, BLANK, (write((0, (1,))), CHECK))
        torn_image = (image[0], torn(NEVER, block_of(9, head(1, 1, 1)), 5), *image[2:])
        self.assertEqual(short(steps(SHAPE, torn_image, (CHECK,))), [None, None, (1, head(2, 1, 1)), None])
        other = (torn_image[1], NEVER, *with_blocks(SHAPE, on_pages([(0, 7, page(1, 0, 0, (1,)))]))[2:])
        self.assertEqual(short(steps(SHAPE, other, (CHECK,))), [None, None, (0, head(2, 0, 0)), None])

    def test_a_check_that_was_cut_in_its_midst_is_done_again(self):
        deeds = (write((0, (1,)), (1, (2,))), CHECK)
        life = steps(SHAPE, BLANK, deeds)
        image = list(after(SHAPE, BLANK, deeds[:1]))
        image[2] = life[3][2]
        image[3] = torn(NEVER, life[4][2], 6)
        image = tuple(image)
        self.assertEqual([recovered(SHAPE, image), floor_of(SHAPE, image)], [(1, ((1,), (2,), ())), 1])
        self.assertEqual(
            short(steps(SHAPE, image, (CHECK,))),
            [None, (2, page(2, 1, 0, (1,))), (3, page(2, 1, 1, (2,))), None, (0, head(2, 1, 2)), None])

    def test_what_deeds_say_is_what_comes_back(self):
        chosen = random.Random(21)
        for _ in range(80):
            shape = random_shape(chosen)
            image = cut_often(chosen, shape, chosen.randint(0, 3))
            deeds = random_deeds(chosen, shape, image, 10)
            commit, state = recovered(shape, image)
            for deed in deeds:
                if deed[0] == "write":
                    commit += 1
                    state = tuple(dict(deed[1]).get(number, page) for number, page in enumerate(state))
            self.assertEqual(recovered(shape, after(shape, image, deeds)), (commit, state))


class AgainstTheModel(unittest.TestCase):
    def compare(self, chosen, shape, image):
        deeds = random_deeds(chosen, shape, image, 10)
        life, life_ends = model_steps(shape, image, deeds)
        self.assertEqual(steps(shape, image, deeds), tuple(life))
        self.assertEqual(ends(shape, image, deeds), tuple(life_ends))
        done = list(image)
        for step in life:
            if step[0] == "block":
                done[step[1]] = step[2]
        self.assertEqual(after(shape, image, deeds), tuple(done))

    def test_on_what_cuts_left(self):
        chosen = random.Random(22)
        for _ in range(200):
            shape = random_shape(chosen)
            self.compare(chosen, shape, cut_often(chosen, shape, chosen.randint(0, 4)))

    def test_on_images_of_any_blocks(self):
        chosen = random.Random(23)
        harmed = 0
        for _ in range(400):
            shape = random_shape(chosen)
            image = with_random_log(chosen, shape, random_image(chosen, shape))
            if fails("Harmed", recovered, shape, image):
                harmed += 1
                self.assertEqual(told(steps, shape, image, ()), told(recovered, shape, image))
            else:
                self.compare(chosen, shape, image)
        self.assertTrue(50 < harmed < 350)


class Limits(unittest.TestCase):
    TOO_MANY = bad("TooMany", most=MOST)

    def test_stamps(self):
        image = with_blocks(SHAPE, {9: (MOST - 2, blank(0, 0))})
        two = write((0, ()), (1, ()))
        self.assertEqual(stamps(steps(SHAPE, image, (two,))), [MOST - 1, MOST])
        for call in CALLS:
            self.assertEqual(told(call, SHAPE, image, (two, write((0, ())))), self.TOO_MANY)
            self.assertEqual(told(call, SHAPE, image, (two, CHECK)), self.TOO_MANY)
            self.assertEqual(told(call, SHAPE, image, (write((0, ()), (1, ()), (2, ())),)), self.TOO_MANY)
        self.assertEqual(len(steps(SHAPE, image, (two, SYNC, SYNC))), 4)
        self.assertEqual(told(steps, SHAPE, image, (write((0, ())), TIDY, TIDY, TIDY)), (
            steps(SHAPE, image, (write((0, ())), SYNC, SYNC, SYNC))))

    def test_a_life_without_blocks_needs_no_stamp_and_no_epoch(self):
        image = with_blocks(SHAPE, {9: (MOST, part(0, 1, MOST, 9, 0))})
        for call in CALLS:
            for deeds in [(), (SYNC,), (SYNC, SYNC)]:
                self.assertEqual(told(call, SHAPE, image, deeds), call(SHAPE, BLANK, deeds) if call != after else image)
            for deeds in [(write((0, ())),), (CHECK,), (TIDY,), (SYNC, TIDY)]:
                self.assertEqual(told(call, SHAPE, image, deeds), self.TOO_MANY)

    def test_epochs(self):
        image = with_blocks(SHAPE, {9: (5, part(0, 1, MOST - 1, 9, 0))})
        self.assertEqual(short(steps(SHAPE, image, (write((0, ())),))), [(5, part(0, 1, MOST, 1, 0))])
        image = with_blocks(SHAPE, {9: (5, part(0, 1, MOST, 9, 0))})
        for deed in [write((0, ())), CHECK, TIDY]:
            self.assertEqual(told(steps, SHAPE, image, (SYNC, deed)), self.TOO_MANY)

    def test_commits(self):
        image = with_blocks(SHAPE, {0: (5, head(1, MOST - 1, 0))})
        life = steps(SHAPE, image, (write((0, ())), CHECK, TIDY))
        self.assertEqual(short(life)[0], (5, part(0, 1, 2, MOST, 0)))
        self.assertEqual(short(life)[-2], (5, blank(2, MOST)))
        self.assertEqual(told(steps, SHAPE, image, (write((0, ())), write((0, ())))), self.TOO_MANY)
        self.assertEqual(told(steps, SHAPE, image, (write((0, ())), CHECK, write((0, ())))), self.TOO_MANY)

    def test_in_the_order_of_the_steps(self):
        image = with_blocks(SHAPE, {9: (MOST - 2, blank(0, 0))})
        three = write((0, ()), (1, ()), (2, ()))
        for call in CALLS:
            # The third deed has no room, but the first one had no stamps already.
            self.assertEqual(told(call, SHAPE, image, (three, SYNC, three)), self.TOO_MANY)
            self.assertEqual(told(call, SHAPE, image, (write((0, ())), write((0, ())), three, three)), self.TOO_MANY)
        last = with_blocks(SHAPE, {0: (5, head(1, MOST - 1, 0))})
        image = after(SHAPE, last, (write((0, ()), (1, ()), (2, ())),))
        for call in CALLS:
            # What has no room is not begun, so its commit is not missed.
            self.assertEqual(told(call, SHAPE, image, (three,)), bad("RingFull", index=0))
            self.assertEqual(told(call, SHAPE, image, (write((0, ())), three)), self.TOO_MANY)

    def test_wrong_deeds_come_ahead(self):
        image = with_blocks(SHAPE, {9: (MOST, blank(0, 0))})
        for call in CALLS:
            self.assertEqual(told(call, SHAPE, image, (write((0, ())), None)), bad("BadDeeds", index=1))
        five = (write((0, ()), (1, ()), (2, ())),) * 2
        for call in CALLS:
            self.assertEqual(told(call, SHAPE, BLANK, (*five, None)), bad("BadDeeds", index=2))
            self.assertEqual(told(call, SHAPE, BLANK, (*five, SYNC)), bad("RingFull", index=1))


class RingFull(unittest.TestCase):
    def test_with_the_index(self):
        one, two, three = (write(*[(number, ()) for number in range(many)]) for many in (1, 2, 3))
        for deeds, index in [
            ((three, three), 1), ((three, SYNC, two, SYNC, one), 4), ((two, two, two), 2), ((one,) * 6, 5), ((three, TIDY, three), 2),
            ((three, CHECK, three, two, TIDY, one), 5),
        ]:
            for call in CALLS:
                self.assertEqual(told(call, SHAPE, BLANK, deeds), bad("RingFull", index=index))
            call(SHAPE, BLANK, deeds[:index])

    def test_more_pages_than_the_ring_has(self):
        batch = tuple((number, ()) for number in range(64))
        self.assertEqual(told(steps, (64, 63), blank_disk((64, 63)), (("write", batch),)), bad("RingFull", index=0))
        self.assertEqual(len(steps((64, 64), blank_disk((64, 64)), (("write", batch),))), 64)


class WrongValues(unittest.TestCase):
    def test_deeds(self):
        for call in CALLS:
            for deeds, index in bad_deeds(SHAPE):
                with self.subTest(deeds=str(deeds)[:60]):
                    self.assertEqual(told(call, SHAPE, BLANK, deeds), bad("BadDeeds", index=index))

    def test_in_order(self):
        harmed = (NEVER, NEVER, (0,) * 127 + (1,), *BLANK[3:])
        for call in CALLS:
            for shape in BAD_SHAPES:
                self.assertEqual(told(call, shape, None, None), bad("BadShape"))
            for image, index in bad_images((1, 2)):
                self.assertEqual(told(call, (1, 2), image, None), bad("BadImage", index=index))
            for deeds in [(), None, (None,), (write((0, ()), (1, ()), (2, ())),) * 3]:
                self.assertEqual(told(call, SHAPE, harmed, deeds), bad("Harmed", page=0))


class Arguments(unittest.TestCase):
    def test_log_of_the_image_after(self):
        deeds = (write((0, (1,)), (2, ())), SYNC, write((1, (2,))))
        self.assertEqual(
            log_of(SHAPE, after(SHAPE, BLANK, deeds)), ((1, 1, 0, deeds[0][1]), (2, 1, 2, deeds[2][1])))


if __name__ == "__main__":
    unittest.main()
