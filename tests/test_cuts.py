import random
import unittest

from cutledger.blocks import block_of, torn
from cutledger.cuts import can_come, cut_image, fates_for, promise, shows_fates, waiting
from cutledger.disks import blank_disk
from cutledger.lives import after, ends, steps
from cutledger.recovery import recovered
from helpers import (
    ANYTHING, CHECK, NEVER, NO_INTEGERS, NO_TUPLES, SYNC, TIDY, all_fates, bad, blank, fails, head, told, with_blocks, write,
)
from model import model_cut, model_outcomes, model_promise, model_told, model_waits
from scenes import cut_often, random_cut, random_deeds, random_image, random_shape, with_random_log
from test_disks import BAD_SHAPES, bad_images
from test_lives import bad_deeds

SHAPE = (3, 4)
BLANK = blank_disk(SHAPE)
DEEDS = (write((0, (1, 2)), (2, (5,))), SYNC, write((1, (7,))))
MOST = 2 ** 32 - 1
WITH_COUNT = [waiting, promise, can_come]

# Lives of which all fates of all counts are tried out: at most four blocks wait.
SMALL = [
    DEEDS,
    (write((0, (1,))), write((1, (2,))), write((0, (3,)), (2, ()))),
    (write((0, (1,)), (1, (2,)), (2, (3,))), CHECK, write((2, (9,)))),
    (write((1, (1,))), SYNC, write((0, (2,))), TIDY),
    (write((0, (1,)), (1, (1,))), CHECK, write((0, (2,))), write((1, (2,))), TIDY, SYNC),
    (CHECK, TIDY, SYNC),
    (SYNC, write((0, ())), SYNC, SYNC, write((0, ()))),
    (),
]
START_DEEDS = [(), (write((0, (50,))), CHECK, write((1, (51,)), (2, (52,)))), (write((0, (60,)), (1, (61,)), (2, (62,))), CHECK)]


def starts():
    """Images on which lives begin: a blank disk, what whole lives left, and what a cut one left."""
    images = [after(SHAPE, BLANK, deeds) for deeds in START_DEEDS]
    cut_one = (write((0, (1,)), (1, (2,))), write((2, (3,))))
    return images + [cut_image(SHAPE, BLANK, cut_one, (3, (8, 5, 8)))]


def doable(image, deeds):
    """Deeds, with a check ahead where the ring of an image has not blocks enough for them."""
    return (CHECK, *deeds) if fails("RingFull", steps, SHAPE, image, deeds) else deeds


def small_lives():
    """All small lives with their images, deeds and steps."""
    for image in starts():
        for deeds in SMALL:
            deeds = doable(image, deeds)
            yield image, deeds, steps(SHAPE, image, deeds)


class Examples(unittest.TestCase):
    def test_examples(self):
        self.assertEqual(
            [waiting(SHAPE, BLANK, DEEDS, 2), promise(SHAPE, BLANK, DEEDS, 2), promise(SHAPE, BLANK, DEEDS, 4)],
            [(5, 6), (0, 1), (1, 2)])
        self.assertEqual(
            [can_come(SHAPE, BLANK, DEEDS, 2), recovered(SHAPE, cut_image(SHAPE, BLANK, DEEDS, (2, (8, 3))))],
            [((0, ((), (), ())), (1, ((1, 2), (), (5,)))), (0, ((), (), ()))])
        self.assertEqual(
            [fates_for(SHAPE, BLANK, DEEDS, 2, 1), fates_for(SHAPE, BLANK, DEEDS, 4, 0), shows_fates(SHAPE, BLANK, DEEDS, 2, 0, (8, 3))],
            [(8, 8), None, True])


class Waiting(unittest.TestCase):
    def test_behind_each_step(self):
        self.assertEqual(
            [waiting(SHAPE, BLANK, DEEDS, count) for count in range(5)], [(), (5,), (5, 6), (), (7,)])
        deeds = (write((0, ()), (2, ())), CHECK, write((1, ())), TIDY)
        self.assertEqual(
            [waiting(SHAPE, BLANK, deeds, count) for count in range(len(steps(SHAPE, BLANK, deeds)) + 1)],
            [(), (5,), (5, 6), (), (2,), (2, 4), (), (0,), (), (7,), (7, 5), (7, 5, 6), ()])

    def test_against_the_model(self):
        for image, deeds, life in small_lives():
            for count in range(len(life) + 1):
                places = tuple(step[1] for step in model_waits(life, count)[1])
                self.assertEqual(waiting(SHAPE, image, deeds, count), places)


class CutImages(unittest.TestCase):
    def test_each_fate(self):
        life = steps(SHAPE, BLANK, DEEDS)
        for first in range(9):
            for second in range(9):
                image = cut_image(SHAPE, BLANK, DEEDS, (2, (first, second)))
                self.assertEqual(image[:5], BLANK[:5])
                self.assertEqual(image[5], torn(NEVER, life[0][2], first))
                self.assertEqual(image[6], torn(NEVER, life[1][2], second))
                self.assertEqual(image[7:], BLANK[7:])

    def test_what_stood_there_is_what_was_done(self):
        deeds = (write((0, (1,)), (1, (2,)), (2, (3,))), CHECK, write((0, (4,)), (1, (5,))))
        life = steps(SHAPE, BLANK, deeds)
        count = len(life)
        self.assertEqual(waiting(SHAPE, BLANK, deeds, count), (8, 5))
        whole = after(SHAPE, BLANK, deeds)
        for fate in range(9):
            image = cut_image(SHAPE, BLANK, deeds, (count, (8, fate)))
            self.assertEqual(image[5], torn(life[0][2], life[-1][2], fate))
            self.assertEqual(image[:5] + image[6:], whole[:5] + whole[6:])

    def test_none_and_all(self):
        for image, deeds, life in small_lives():
            self.assertEqual(cut_image(SHAPE, image, deeds, (0, ())), image)
            many = len(waiting(SHAPE, image, deeds, len(life)))
            self.assertEqual(cut_image(SHAPE, image, deeds, (len(life), (8,) * many)), after(SHAPE, image, deeds))

    def test_against_the_model(self):
        chosen = random.Random(31)
        for image, deeds, life in small_lives():
            for _ in range(20):
                count, fates = random_cut(chosen, SHAPE, image, deeds)
                self.assertEqual(cut_image(SHAPE, image, deeds, (count, fates)), model_cut(image, life, count, fates))


class TryingOut(unittest.TestCase):
    """Every count of small lives with all fates."""

    def check_fates(self, image, deeds, count, outcomes):
        """What fates_for and shows_fates tell of each commit, and of all fates there are."""
        came = sorted(set(outcomes.values()))
        for commit in range(max(0, came[0] - 2), came[-1] + 3):
            right = [fates for fates, left in outcomes.items() if left == commit]
            found = fates_for(SHAPE, image, deeds, count, commit)
            if not right:
                self.assertIsNone(found)
                self.assertIs(shows_fates(SHAPE, image, deeds, count, commit, None), True)
            else:
                fewest = min(sum(fate != 8 for fate in fates) for fates in right)
                best = [fates for fates in right if sum(fate != 8 for fate in fates) == fewest]
                self.assertIn(found, best)
                self.assertIs(shows_fates(SHAPE, image, deeds, count, commit, None), False)
                some = list(outcomes)[::max(1, len(outcomes) // 40)] + best[:20]
                for fates in some:
                    self.assertIs(shows_fates(SHAPE, image, deeds, count, commit, fates), fates in best)

    def test_all_fates(self):
        known = {}
        for image, deeds, life in small_lives():
            for count in range(len(life) + 1):
                # Counts that begin alike are alike; so each is tried out but once.
                key = (image, life[:count])
                if key not in known:
                    choices = range(9) if len(model_waits(life, count)[1]) < 4 else (0, 3, 8)
                    known[key] = model_outcomes(SHAPE, image, life, count, choices)
                    self.check_fates(image, deeds, count, known[key])
                came = sorted(set(known[key].values()))
                safe, whole = model_promise(SHAPE, image, life, count)
                self.assertEqual(promise(SHAPE, image, deeds, count), (safe, whole))
                self.assertEqual(came, list(range(safe, whole + 1)))
                states = {}
                for fates, commit in list(known[key].items())[::7] + list(known[key].items())[-9:]:
                    left = cut_image(SHAPE, image, deeds, (count, fates))
                    states[commit] = recovered(SHAPE, left)[1]
                    self.assertEqual(recovered(SHAPE, left)[0], commit)
                told_states = can_come(SHAPE, image, deeds, count)
                self.assertEqual([commit for commit, _ in told_states], came)
                for commit, state in told_states:
                    found = cut_image(SHAPE, image, deeds, (count, fates_for(SHAPE, image, deeds, count, commit)))
                    self.assertEqual(recovered(SHAPE, found), (commit, state))
                    self.assertEqual(states.get(commit, state), state)
                    self.assertEqual(tuple(model_told(SHAPE, found, commit)), state)

    def test_states_that_can_come(self):
        deeds = (write((0, (1,))), write((0, (2,)), (1, (3,))), write((2, (4,))))
        states = [((), (), ()), ((1,), (), ()), ((2,), (3,), ()), ((2,), (3,), (4,))]
        for count, last in [(0, 0), (1, 1), (2, 1), (3, 2), (4, 3)]:
            self.assertEqual(can_come(SHAPE, BLANK, deeds, count), tuple(enumerate(states[:last + 1])))
        deeds = (*deeds[:2], SYNC, deeds[2])
        for count, first, last in [(3, 0, 2), (4, 2, 2), (5, 2, 3)]:
            told_states = tuple((commit, states[commit]) for commit in range(first, last + 1))
            self.assertEqual(can_come(SHAPE, BLANK, deeds, count), told_states)


class Promises(unittest.TestCase):
    def test_within_a_write(self):
        deeds = (write((0, ())), write((0, ()), (1, ()), (2, ())), SYNC)
        self.assertEqual(
            [promise(SHAPE, BLANK, deeds, count) for count in range(6)], [(0, 0), (0, 1), (0, 1), (0, 1), (0, 2), (2, 2)])

    def test_a_sync_of_a_check_and_of_a_tidy(self):
        deeds = (write((0, ())), CHECK, write((0, ())), TIDY)
        life = steps(SHAPE, BLANK, deeds)
        self.assertEqual(
            [promise(SHAPE, BLANK, deeds, count) for count in range(len(life) + 1)],
            [(0, 0), (0, 1), (1, 1), (1, 1), (1, 1), (1, 1), (1, 1), (1, 2), (1, 2), (2, 2)])

    def test_in_a_second_life(self):
        image = after(SHAPE, BLANK, DEEDS)
        self.assertEqual([promise(SHAPE, image, DEEDS[2:], count) for count in (0, 1)], [(2, 2), (2, 3)])
        self.assertEqual(promise(SHAPE, image, (CHECK, CHECK), 4), (2, 2))


class Fates(unittest.TestCase):
    def test_one_block_not_done_at_the_most(self):
        deeds = (write((0, (1,)), (1, (2,))), write((2, (3,))))
        self.assertEqual(fates_for(SHAPE, BLANK, deeds, 3, 2), (8, 8, 8))
        one = fates_for(SHAPE, BLANK, deeds, 3, 1)
        self.assertTrue(one[:2] == (8, 8) and one[2] in range(8))
        none = fates_for(SHAPE, BLANK, deeds, 3, 0)
        self.assertTrue(none[2] == 8 and [none[0] == 8, none[1] == 8].count(False) == 1)
        self.assertIsNone(fates_for(SHAPE, BLANK, deeds, 3, 3))
        self.assertIsNone(fates_for(SHAPE, BLANK, deeds, 3, 10 ** 30))
        self.assertEqual(fates_for(SHAPE, BLANK, deeds, 2, 1), (8, 8))
        self.assertEqual(fates_for(SHAPE, BLANK, deeds, 1, 0), (8,))
        self.assertEqual(fates_for(SHAPE, BLANK, deeds, 0, 0), ())

    def test_shows_each_that_may_be_returned(self):
        deeds = (write((0, (1,)), (1, (2,))), write((2, (3,))))
        for commit in range(4):
            for fates in all_fates(3):
                if commit == 0:
                    right = fates[2] == 8 and (fates[0] == 8) != (fates[1] == 8)
                elif commit == 1:
                    right = fates[:2] == (8, 8) and fates[2] != 8
                else:
                    right = commit == 2 and fates == (8, 8, 8)
                self.assertIs(shows_fates(SHAPE, BLANK, deeds, 3, commit, fates), right)

    def test_any_value_may_be_shown(self):
        deeds = (write((0, (1,)), (1, (2,))), write((2, (3,))))
        wrong = [
            *ANYTHING, (), (8,), (8, 8), (8, 8, 8, 8), (8, 8, 9), (8, 8, -1), (8, 8, None), (8, 8, True), (8, 8, "8"), [8, 8, 8],
            (8, 8, (8,)), (8, 8, 10 ** 30), "888", {0: 8}, ((8, 8, 8),), (True, 8, 8), (False, 8, 8),
        ]
        for commit in range(3):
            for value in wrong:
                self.assertIs(shows_fates(SHAPE, BLANK, deeds, 3, commit, value), False)
        for commit in (3, 10 ** 30):
            for value in wrong:
                self.assertIs(shows_fates(SHAPE, BLANK, deeds, 3, commit, value), value is None)
        self.assertIs(shows_fates(SHAPE, BLANK, deeds, 0, 0, ()), True)
        self.assertIs(shows_fates(SHAPE, BLANK, deeds, 1, 0, (True,)), False)

    def test_blanks_pages_and_heads_that_wait(self):
        deeds = (write((0, (1,)), (1, (2,))), CHECK, write((0, (3,))), TIDY)
        self.assertEqual(fates_for(SHAPE, BLANK, deeds, 5, 1), (8, 8))
        self.assertEqual(fates_for(SHAPE, BLANK, deeds, 7, 1), (8,))
        self.assertEqual(waiting(SHAPE, BLANK, deeds, 11), (7, 5, 6))
        self.assertEqual(fates_for(SHAPE, BLANK, deeds, 11, 2), (8, 8, 8))
        self.assertEqual(fates_for(SHAPE, BLANK, deeds, 11, 1)[1:], (8, 8))
        self.assertIs(shows_fates(SHAPE, BLANK, deeds, 11, 1, (7, 8, 8)), True)
        self.assertIs(shows_fates(SHAPE, BLANK, deeds, 11, 1, (0, 7, 8)), False)


class ManyBlocksThatWait(unittest.TestCase):
    """Lives of which not all fates can be tried out."""

    def try_some(self, chosen, shape, image, deeds, count):
        safe, whole = promise(shape, image, deeds, count)
        told_states = can_come(shape, image, deeds, count)
        self.assertEqual([commit for commit, _ in told_states], list(range(safe, whole + 1)))
        for commit, state in told_states:
            fates = fates_for(shape, image, deeds, count, commit)
            self.assertEqual(len(fates) - fates.count(8), 0 if commit == whole else 1)
            self.assertIs(shows_fates(shape, image, deeds, count, commit, fates), True)
            self.assertEqual(recovered(shape, cut_image(shape, image, deeds, (count, fates))), (commit, state))
        many = len(waiting(shape, image, deeds, count))
        for most_lost in (1, 3, many):
            fates = [8] * many
            for _ in range(chosen.randint(0, most_lost)):
                if many:
                    fates[chosen.randrange(many)] = chosen.randrange(9)
            left = recovered(shape, cut_image(shape, image, deeds, (count, tuple(fates))))
            self.assertIn(left, told_states)

    def test_a_long_ring(self):
        chosen = random.Random(32)
        shape = (5, 40)
        image = blank_disk(shape)
        for _ in range(6):
            deeds = random_deeds(chosen, shape, image, 15, "wwwwwwwwst")
            count = len(steps(shape, image, deeds))
            for some in {count, count // 2, max(0, count - 1)}:
                self.try_some(chosen, shape, image, deeds, some)
            image = cut_image(shape, image, (*deeds, CHECK), (count, tuple(
                chosen.choice((8, 8, 8, 0)) for _ in waiting(shape, image, deeds, count))))
            image = after(shape, image, (CHECK,))

    def test_the_greatest_disk(self):
        chosen = random.Random(33)
        shape = (64, 64)
        batch = tuple((number, (255 - number,) * 96) for number in range(64))
        deeds = (*[write((number, (number,) * 96)) for number in range(38)], write(*batch[:26]))
        image = blank_disk(shape)
        self.assertEqual(len(waiting(shape, image, deeds, 64)), 64)
        self.try_some(chosen, shape, image, deeds, 64)
        deeds = (("write", batch), CHECK, ("write", batch[::2]), *[write(pair) for pair in batch[:20]])
        for count in (64, 65, 129, 131, 150, len(steps(shape, image, deeds))):
            self.try_some(chosen, shape, image, deeds, count)


class OnAnyImages(unittest.TestCase):
    def test_what_comes_back_is_from_s_to_w(self):
        chosen = random.Random(34)
        tried = 0
        while tried < 150:
            shape = random_shape(chosen)
            image = with_random_log(chosen, shape, random_image(chosen, shape))
            if fails("Harmed", recovered, shape, image):
                continue
            tried += 1
            deeds = random_deeds(chosen, shape, image, 8)
            for _ in range(6):
                cut = random_cut(chosen, shape, image, deeds)
                left = recovered(shape, cut_image(shape, image, deeds, cut))
                self.assertIn(left, can_come(shape, image, deeds, cut[0]))
                least = fates_for(shape, image, deeds, cut[0], left[0])
                self.assertEqual(recovered(shape, cut_image(shape, image, deeds, (cut[0], least))), left)

    def test_on_what_cuts_left(self):
        chosen = random.Random(35)
        for _ in range(60):
            shape = random_shape(chosen)
            image = cut_often(chosen, shape, chosen.randint(1, 4))
            deeds = random_deeds(chosen, shape, image, 8)
            for _ in range(6):
                cut = random_cut(chosen, shape, image, deeds)
                self.assertIn(
                    recovered(shape, cut_image(shape, image, deeds, cut)), can_come(shape, image, deeds, cut[0]))


class WrongValues(unittest.TestCase):
    def calls(self):
        """Each function with what it is passed behind the count, and the error that a wrong count raises."""
        return [(waiting, (), "BadCount"), (promise, (), "BadCount"), (can_come, (), "BadCount"), (fates_for, (None,), "BadCount"),
                (shows_fates, (None, None), "BadCount"), (cut_image, (), "BadCut")]

    def test_what_comes_ahead_of_the_count(self):
        harmed = (NEVER, NEVER, (0,) * 127 + (1,), *BLANK[3:])
        full = (write((0, ()), (1, ()), (2, ())),) * 2
        for call, rest, _ in self.calls():
            for shape in BAD_SHAPES:
                self.assertEqual(told(call, shape, None, None, None, *rest), bad("BadShape"))
            for image, index in bad_images((1, 2))[::5]:
                self.assertEqual(told(call, (1, 2), image, None, None, *rest), bad("BadImage", index=index))
            for deeds in [DEEDS, None, full]:
                self.assertEqual(told(call, SHAPE, harmed, deeds, None, *rest), bad("Harmed", page=0))
            for deeds, index in bad_deeds(SHAPE):
                self.assertEqual(told(call, SHAPE, BLANK, deeds, None, *rest), bad("BadDeeds", index=index))
            self.assertEqual(told(call, SHAPE, BLANK, full, None, *rest), bad("RingFull", index=1))
            self.assertEqual(told(call, SHAPE, BLANK, full, 0, *rest), bad("RingFull", index=1))

    def test_counts(self):
        for call, rest, error in self.calls():
            for count in [*NO_INTEGERS, -1, 5, 10 ** 30]:
                self.assertEqual(told(call, SHAPE, BLANK, DEEDS, count, *rest), bad(error))
            if error == "BadCount":
                self.assertEqual(told(call, SHAPE, BLANK, (), 1, *rest), bad(error))

    def test_cuts(self):
        fates = [*NO_TUPLES, (), (8,), (8, 8, 8), (8, 9), (8, -1), (8, True), (8, None), (None, 8), ("8", 8), ((8,), 8), [8, 8], (8, [])]
        for wrong in fates:
            self.assertEqual(told(cut_image, SHAPE, BLANK, DEEDS, (2, wrong)), bad("BadCut"))
        for count in [*NO_INTEGERS, -1, 5, 10 ** 30]:
            self.assertEqual(told(cut_image, SHAPE, BLANK, DEEDS, (count, (8, 8))), bad("BadCut"))
        for cut in [*ANYTHING, (2,), (2, (8, 8), ()), [2, (8, 8)], ((2, (8, 8)),), (2, 8, 8)]:
            self.assertEqual(told(cut_image, SHAPE, BLANK, DEEDS, cut), bad("BadCut"))
        self.assertEqual(told(cut_image, SHAPE, BLANK, DEEDS, (0, (8,))), bad("BadCut"))
        self.assertEqual(told(cut_image, SHAPE, BLANK, DEEDS, (3, (0,))), bad("BadCut"))
        self.assertEqual(cut_image(SHAPE, BLANK, DEEDS, (3, ())), after(SHAPE, BLANK, DEEDS[:1]))

    def test_commits(self):
        for commit in [*NO_INTEGERS, -1, -10 ** 30]:
            self.assertEqual(told(fates_for, SHAPE, BLANK, DEEDS, 2, commit), bad("BadCommit"))
            self.assertEqual(told(shows_fates, SHAPE, BLANK, DEEDS, 2, commit, None), bad("BadCommit"))
            self.assertEqual(told(fates_for, SHAPE, BLANK, DEEDS, 5, commit), bad("BadCount"))

    def test_too_many_comes_last(self):
        image = with_blocks(SHAPE, {8: (MOST - 1, blank(0, 0))})
        deeds = (write((0, ())), SYNC, write((1, ())))
        too_many = bad("TooMany", most=MOST)
        for call, rest, error in self.calls():
            rest = tuple(0 for _ in rest)
            right = (0, ()) if error == "BadCut" else 0
            self.assertEqual(told(call, SHAPE, image, deeds, right, *rest), too_many)
            for count in [*NO_INTEGERS, -1, 4, 10 ** 30]:
                self.assertEqual(told(call, SHAPE, image, deeds, count, *rest), bad(error))
            self.assertEqual(told(call, SHAPE, image, (write((0, ()), (1, ()), (2, ())),) * 2, right, *rest), too_many)
            self.assertEqual(told(call, SHAPE, image, (*deeds, None), None, *rest), bad("BadDeeds", index=3))
        self.assertEqual(told(cut_image, SHAPE, image, deeds, (3, (8,))), too_many)
        self.assertEqual(told(cut_image, SHAPE, image, deeds, (3, (8, 8))), bad("BadCut"))
        self.assertEqual(told(fates_for, SHAPE, image, deeds, 0, -1), bad("BadCommit"))
        self.assertEqual(told(shows_fates, SHAPE, image, deeds, 0, True, None), bad("BadCommit"))
        for count in range(4):
            self.assertEqual(told(waiting, SHAPE, image, deeds, count), too_many)

    def test_the_ends_of_steps_may_be_counts(self):
        for count in ends(SHAPE, BLANK, DEEDS):
            promise(SHAPE, BLANK, DEEDS, count)


if __name__ == "__main__":
    unittest.main()
