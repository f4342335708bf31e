"""Point 15 and what points 7 to 12 promise together: lives that are cut anywhere, again and again."""

import random
import unittest

from cutledger.blocks import block_of
from cutledger.cuts import cut_image, promise, waiting
from cutledger.disks import blank_disk, changed
from cutledger.lives import after, steps
from cutledger.recovery import floor_of, recovered, sound, state_as_of
from helpers import CHECK, SYNC, TIDY, part, write
from scenes import random_cut, random_deeds, random_fates, random_shape


class Story:
    """A store that lives again and again, and beside it the batches that came back, to compare with."""

    def __init__(self, shape):
        self.shape = shape
        self.image = blank_disk(shape)
        self.batches = []

    def states(self, batches):
        state = ((),) * self.shape[0]
        states = [state]
        for batch in batches:
            state = changed(state, batch)
            states.append(state)
        return states

    def live(self, test, deeds, cut):
        """Live, be cut, and look what came back."""
        safe, whole = promise(self.shape, self.image, deeds, cut[0])
        written = self.batches + [deed[1] for deed in deeds if deed[0] == "write"]
        self.image = cut_image(self.shape, self.image, deeds, cut)
        commit, state = recovered(self.shape, self.image)
        test.assertTrue(len(self.batches) <= safe <= commit <= whole <= len(written))
        test.assertEqual(state, self.states(written)[commit])
        self.batches = written[:commit]
        states = self.states(self.batches)
        for earlier in range(floor_of(self.shape, self.image), commit + 1):
            test.assertEqual(state_as_of(self.shape, self.image, earlier), states[earlier])


class AgainAndAgain(unittest.TestCase):
    def live_often(self, seed, stories, lives, words):
        chosen = random.Random(seed)
        for _ in range(stories):
            story = Story(random_shape(chosen))
            for _ in range(chosen.randint(1, lives)):
                deeds = random_deeds(chosen, story.shape, story.image, 9, words)
                story.live(self, deeds, random_cut(chosen, story.shape, story.image, deeds))

    def test_all_deeds(self):
        self.live_often(51, 120, 8, "wwwwsct")

    def test_few_syncs(self):
        self.live_often(52, 60, 8, "wwwwwwwt")

    def test_many_checks(self):
        self.live_often(53, 60, 8, "wcct")

    def test_lives_that_do_nothing_but_check_tidy_and_sync(self):
        chosen = random.Random(54)
        for _ in range(60):
            story = Story(random_shape(chosen))
            for life in range(8):
                words = "wws" if life < 2 else "sct"
                deeds = random_deeds(chosen, story.shape, story.image, 6, words)
                before = (list(story.batches), recovered(story.shape, story.image))
                story.live(self, deeds, random_cut(chosen, story.shape, story.image, deeds))
                if life >= 2:
                    wrote = any(deed[0] == "write" for deed in deeds)
                    self.assertFalse(wrote)
                    self.assertEqual((story.batches, recovered(story.shape, story.image)), before)

    def test_the_greatest_disk(self):
        chosen = random.Random(55)
        story = Story((64, 64))
        for _ in range(5):
            deeds = random_deeds(chosen, story.shape, story.image, 6, "wwcst")
            story.live(self, deeds, random_cut(chosen, story.shape, story.image, deeds))

    def test_cut_at_every_step_of_a_life(self):
        chosen = random.Random(56)
        shape = (3, 5)
        deeds = (write((0, (1,)), (1, (2,))), SYNC, write((2, (3,))), CHECK, write((0, (4,)), (2, (5,))), TIDY, write((1, (6,))), CHECK)
        for count in range(len(steps(shape, blank_disk(shape), deeds)) + 1):
            for _ in range(8):
                story = Story(shape)
                fates = random_fates(chosen, len(waiting(shape, story.image, deeds, count)))
                story.live(self, deeds, (count, fates))
                again = random_deeds(chosen, shape, story.image, 6)
                story.live(self, again, random_cut(chosen, shape, story.image, again))
                self.assertTrue(sound(shape, story.image))

    def test_a_lost_commit_does_not_come_back_later(self):
        # Commit 1 is lost, its successors are done: none of them is ever read, whatever is written later.
        shape = (2, 4)
        image = blank_disk(shape)
        lost = (write((0, (1,))), write((0, (2,))), write((0, (3,))), write((0, (4,))))
        for first in range(8):
            left = cut_image(shape, image, lost, (4, (first, 8, 8, 8)))
            self.assertEqual(recovered(shape, left), (0, ((), ())))
            for many in range(1, 5):
                deeds = tuple(write((1, (50 + at,))) for at in range(many))
                whole = after(shape, left, deeds)
                self.assertEqual(recovered(shape, whole), (many, ((), (49 + many,))))
                checked = after(shape, left, (*deeds, CHECK))
                self.assertEqual(recovered(shape, checked), (many, ((), (49 + many,))))

    def test_an_epoch_keeps_lost_parts_apart(self):
        # The second life writes the first part of commit 1 anew; the second part is the lost one of the first life.
        shape = (2, 4)
        one = (write((0, (1,)), (1, (2,))),)
        left = cut_image(shape, blank_disk(shape), one, (2, (0, 8)))
        again = (write((0, (3,)), (1, (4,))),)
        mixed = cut_image(shape, left, again, (2, (8, 0)))
        self.assertEqual(mixed[4], block_of(3, part(0, 2, 2, 1, 0, (3,))))
        self.assertEqual(mixed[5], block_of(2, part(1, 2, 1, 1, 1, (2,))))
        self.assertEqual(recovered(shape, mixed), (0, ((), ())))


if __name__ == "__main__":
    unittest.main()
