import random
import unittest
from unittest.mock import patch

from cutledger.blocks import label_of, stamps_of
from cutledger.cuts import can_come, cut_image, promise, waiting
from cutledger.disks import blank_disk, changed
from cutledger.lives import after, ends, steps
from cutledger.recovery import Reading, end_of, head_of, recovered
from cutledger.stories import history, is_kept, kept, left, lost_by, reach, same_end
from helpers import ANYTHING, CHECK, NO_INTEGERS, NO_TUPLES, SYNC, TIDY, all_fates, bad, told, write
from model import model_cut, model_last, model_promise, model_steps, model_told
from scenes import random_cut, random_deeds, random_fates, random_shape
from test_disks import BAD_SHAPES
from test_lives import bad_deeds

SHAPE = (3, 5)
ONE = write((0, (1, 2)), (2, (5,)))
TWO = write((1, (7,)))
STORY = (((ONE, SYNC, TWO, TWO), (5, (8, 0))), ((TWO,), (1, (3,))))
OF_ONE_STORY = [left, kept, history, is_kept, lost_by]


def states_behind(shape, batches):
    """The states behind none, one, two .. of the batches."""
    states = [((),) * shape[0]]
    for batch in batches:
        states.append(changed(states[-1], batch))
    return states


def model_story(shape, story):
    """What a story leaves: the image, the commits that come back, those that are lost, the batches that are left."""
    image = blank_disk(shape)
    commits, losses, batches = [], [], []
    for deeds, (count, fates) in story:
        life = model_steps(shape, image, deeds)[0]
        first = model_last(shape, image)
        written = [deed[1] for deed in deeds if deed[0] == "write"]
        whole = model_promise(shape, image, life, count)[1]
        image = model_cut(image, life, count, fates)
        last = model_last(shape, image)
        batches += written[:last - first]
        commits.append(last)
        losses.append(whole - last)
    return image, tuple(commits), tuple(losses), tuple(batches)


def random_story(chosen, shape, lives, words="wwwwsct"):
    story, image = (), blank_disk(shape)
    for _ in range(lives):
        deeds = random_deeds(chosen, shape, image, 8, words)
        cut = random_cut(chosen, shape, image, deeds)
        story = (*story, (deeds, cut))
        image = cut_image(shape, image, deeds, cut)
    return story


class Examples(unittest.TestCase):
    def test_examples(self):
        self.assertEqual(
            [kept(SHAPE, STORY), lost_by(SHAPE, STORY), is_kept(SHAPE, STORY), reach(SHAPE, STORY, (TWO,), 1)],
            [(2, 2), (1, 1), True, (2, 3)])
        self.assertEqual(
            [history(SHAPE, STORY), same_end(SHAPE, STORY, STORY[:1])],
            [(((0, (1, 2)), (2, (5,))), ((1, (7,)),)), True])
        self.assertEqual(told(left, SHAPE, (((TWO,), (2, ())),)), bad("BadStory", index=0))


class Walks(unittest.TestCase):
    def check_story(self, shape, story):
        image, commits, losses, batches = model_story(shape, story)
        self.assertEqual(left(shape, story), image)
        self.assertEqual(kept(shape, story), commits)
        self.assertEqual(lost_by(shape, story), losses)
        self.assertEqual(history(shape, story), batches)
        self.assertIs(is_kept(shape, story), True)
        self.assertEqual(len(batches), commits[-1] if commits else 0)
        self.assertEqual(recovered(shape, image), (len(batches), states_behind(shape, batches)[-1]))
        self.assertEqual(model_told(shape, image, len(batches)), list(recovered(shape, image)[1]))

    def test_no_lives(self):
        for shape in [(1, 2), SHAPE, (64, 64)]:
            self.assertEqual([call(shape, ()) for call in OF_ONE_STORY], [blank_disk(shape), (), (), True, ()])
            self.assertEqual(reach(shape, (), (), 0), (0,))
            self.assertIs(same_end(shape, (), ()), True)

    def test_lives_without_deeds(self):
        story = (((), (0, ())),) * 8
        self.assertEqual(
            [call(SHAPE, story) for call in OF_ONE_STORY], [blank_disk(SHAPE), (0,) * 8, (), True, (0,) * 8])

    def test_any_stories(self):
        chosen = random.Random(81)
        for lives in range(9):
            for _ in range(7):
                shape = random_shape(chosen)
                self.check_story(shape, random_story(chosen, shape, lives))

    def test_few_syncs_and_many_checks(self):
        chosen = random.Random(82)
        for words in ("wwwwwwwt", "wcct", "wwwws", "wst"):
            for _ in range(6):
                shape = random_shape(chosen)
                self.check_story(shape, random_story(chosen, shape, 8, words))

    def test_parts_of_a_lost_commit(self):
        # Commit 1 is lost but for its second part; then commit 1 is written anew, its first part alone being done.
        story = (((write((0, (1,)), (1, (2,))), TWO), (3, (0, 8, 8))), ((write((0, (3,)), (1, (4,))),), (2, (8, 0))))
        self.check_story(SHAPE, story)
        self.assertEqual((kept(SHAPE, story), lost_by(SHAPE, story), history(SHAPE, story)), ((0, 0), (2, 1), ()))
        more = (*story, ((write((0, (5,))),), (1, (8,))))
        self.check_story(SHAPE, more)
        self.assertEqual((kept(SHAPE, more), history(SHAPE, more)), ((0, 0, 1), (((0, (5,)),),)))

    def test_an_elder_commit_behind_a_new_one(self):
        # Commit 1 is lost and commit 2 done; a new commit 1 stands ahead of the elder commit 2, which is not read.
        story = (((TWO, write((0, (9,)))), (2, (0, 8))), ((TWO,), (1, (8,))))
        self.check_story(SHAPE, story)
        self.assertEqual(end_of(SHAPE, left(SHAPE, story)), ("elder", 1))
        self.assertEqual((kept(SHAPE, story), lost_by(SHAPE, story)), ((0, 1), (2, 0)))

    def test_torn_heads_and_checks_cut_in_their_midst(self):
        first = (ONE, SYNC, TWO, CHECK, write((0, (4,))), CHECK)
        whole = steps(SHAPE, blank_disk(SHAPE), first)
        for count in range(len(whole) + 1):
            for fate in range(9):
                many = len(waiting(SHAPE, blank_disk(SHAPE), first, count))
                begun = ((first, (count, (fate,) * many)),)
                self.check_story(SHAPE, begun)
                last = kept(SHAPE, begun)[0]
                room = (TIDY, CHECK, TWO, write((2, (6,))))
                self.check_story(SHAPE, (*begun, (room, (ends(SHAPE, left(SHAPE, begun), room)[-1], (0, 8)))))
                self.assertEqual(kept(SHAPE, (*begun, ((CHECK,), (0, ())))), (last, last))

    def test_a_head_that_is_torn_over_an_elder_one(self):
        deeds = (TWO, CHECK, ONE, CHECK, TWO, CHECK)
        life = steps(SHAPE, blank_disk(SHAPE), deeds)
        at = [place for place, step in enumerate(life) if step[0] == "block" and step[1] < 2][-1]
        self.assertEqual(life[at][1], 0)
        for fate in range(9):
            story = ((deeds, (at + 1, (fate,))), ((TWO,), (1, (8,))))
            self.check_story(SHAPE, story)
            self.assertEqual(kept(SHAPE, story), (3, 4))
            self.assertEqual(head_of(SHAPE, left(SHAPE, story[:1]))[0], 0 if fate == 8 else 1)

    def test_the_greatest_disk(self):
        chosen = random.Random(83)
        batch = tuple((number, (number,) * 96) for number in range(64))
        story = (((("write", batch), CHECK, ("write", batch[::2])), (164, random_fates(chosen, 32))),)
        self.check_story((64, 64), story)
        self.check_story((64, 64), (*story, ((("write", batch[:32]),), (32, (8,) * 31 + (7,)))))

    def test_is_kept_is_no_constant(self):
        # What a wrong recovery would bring back is not what was promised: never anything, and one commit too few.
        def read_nothing(shape, image):
            return Reading(shape, blank_disk(shape))

        def forget(shape, image):
            reading = Reading(shape, image)
            reading.last -= 1
            return reading

        story = (((ONE, SYNC, TWO), (3, ())), ((TWO, SYNC), (2, ())))
        for wrong in (read_nothing, forget):
            with patch("cutledger.stories.sound_reading", wrong):
                self.assertIs(is_kept(SHAPE, story), False)
                self.assertIs(is_kept(SHAPE, story[:1]), False)
        with patch("cutledger.stories.with_batch", lambda state, batch: state):
            self.assertIs(is_kept(SHAPE, story[:1]), False)
        self.assertIs(is_kept(SHAPE, story), True)


class Reaching(unittest.TestCase):
    def test_by_all_fates_of_the_last_life(self):
        chosen = random.Random(84)
        tried = 0
        while tried < 25:
            shape = random_shape(chosen)
            story = random_story(chosen, shape, chosen.randint(0, 4))
            image = left(shape, story)
            deeds = random_deeds(chosen, shape, image, 6)
            count = chosen.randint(0, len(steps(shape, image, deeds)))
            many = len(waiting(shape, image, deeds, count))
            if many > 3:
                continue
            tried += 1
            came = set(kept(shape, (*story, (deeds, (count, fates))))[-1] for fates in all_fates(many))
            self.assertEqual(reach(shape, story, deeds, count), tuple(sorted(came)))
            safe, whole = promise(shape, image, deeds, count)
            self.assertEqual(reach(shape, story, deeds, count), tuple(range(safe, whole + 1)))

    def test_behind_eight_lives(self):
        story = (((TWO, SYNC), (2, ())),) * 4 + (((CHECK,), (0, ())),) * 4
        self.assertEqual(reach((2, 5), story, (TWO,), 1), (4, 5))
        self.assertEqual(told(reach, (2, 4), story, (TWO,), 1), bad("RingFull", index=0))

    def test_each_count(self):
        deeds = (TWO, TWO, SYNC, ONE, TIDY)
        self.assertEqual(
            [reach(SHAPE, (), deeds, count) for count in range(7)], [(0,), (0, 1), (0, 1, 2), (2,), (2,), (2, 3), (3,)])


class SameEnds(unittest.TestCase):
    def test_alike_by_another_way(self):
        by_check = (((ONE, TWO, CHECK), (10, ())),)
        by_log = (((ONE, SYNC), (3, ())), ((TWO,), (1, (8,))))
        self.assertNotEqual(left(SHAPE, by_check), left(SHAPE, by_log))
        self.assertIs(same_end(SHAPE, by_check, by_log), True)
        self.assertIs(same_end(SHAPE, by_log, by_check), True)

    def test_another_commit_or_another_state(self):
        once = (((TWO,), (1, (8,))),)
        twice = (((TWO, TWO), (2, (8, 8))),)
        other = (((ONE,), (2, (8, 8))),)
        self.assertIs(same_end(SHAPE, once, twice), False)
        self.assertIs(same_end(SHAPE, once, other), False)
        self.assertIs(same_end(SHAPE, once, ()), False)
        self.assertIs(same_end(SHAPE, (((TWO,), (1, (3,))),), ()), True)
        void = (((write((0, ())),), (1, (8,))),)
        self.assertIs(same_end(SHAPE, void, ()), False)
        self.assertIs(same_end(SHAPE, void, (((write((2, ())),), (1, (8,))),)), True)

    def test_against_what_comes_back(self):
        chosen = random.Random(85)
        shape = (1, 3)
        stories = [random_story(chosen, shape, chosen.randint(0, 3)) for _ in range(12)]
        ways = set()
        for one in stories:
            for other in stories:
                alike = recovered(shape, left(shape, one)) == recovered(shape, left(shape, other))
                self.assertIs(same_end(shape, one, other), alike)
                ways.add(alike)
        self.assertEqual(ways, {True, False})


class WrongValues(unittest.TestCase):
    def calls(self):
        """Each function with what it is passed behind the story."""
        return [(call, ()) for call in OF_ONE_STORY] + [(reach, (None, None)), (same_end, (None,)), (same_end, ((),))]

    def wrong_stories(self):
        """Wrong stories with the error's index."""
        wrong = [(value, None) for value in NO_TUPLES] + [((((), (0, ())),) * 9, None), ((None,) * 9, None)]
        lives = [value for value in ANYTHING if value != ((),)] + [
            ((),), ((TWO,), (2, ())), ((TWO,),), ((TWO,), (1, (8,)), ()), [(TWO,), (1, (8,))], ((TWO,), None), (None, (0, ())),
            ((TWO,), (1,)), ((TWO,), (1, ())), ((TWO,), (1, (9,))), ((TWO,), (1, (8, 8))), ((TWO,), (True, (8,))), ((TWO,), (-1, ())),
            ((TWO,), [1, (8,)]), ((TWO,), (1, [8])), ((TWO, TWO), (2, (8, None))), ((ONE, ONE, ONE), (0, ())), ((TWO, CHECK), (99, ())),
            (((write((3, ()))),), (0, ())), ((write((3, ())),), (0, ())), ((SYNC,) * 41, (0, ())), ([TWO], (0, ())),
        ]
        wrong += [((life,), 0) for life in lives]
        right = ((ONE, SYNC), (3, ()))
        wrong += [((right, life, None), 1) for life in lives[::2]]
        for deeds, _ in bad_deeds(SHAPE)[::3]:
            wrong.append((((deeds, (0, ())),), 0))
        # The ring has two blocks left: so these deeds can be done on a blank disk, but not here.
        wrong += [((right, ((TWO,), (1, (8,))), ((TWO, TWO, TWO), (0, ()))), 2)]
        return wrong + [((*(((), (0, ())),) * 7, ((), (1, ()))), 7)]

    def test_shapes(self):
        for call, rest in self.calls():
            for shape in BAD_SHAPES:
                self.assertEqual(told(call, shape, None, *rest), bad("BadShape"))

    def test_stories(self):
        for story, index in self.wrong_stories():
            for call, rest in self.calls():
                self.assertEqual(told(call, SHAPE, story, *rest), bad("BadStory", index=index))
            self.assertEqual(told(same_end, SHAPE, STORY, story), bad("BadStory", index=index))

    def test_the_last_thing_that_can_be_done(self):
        story = (((ONE, SYNC), (3, ())), ((TWO,), (1, (8,))), ((TWO, SYNC, TWO, TWO), (0, ())))
        self.assertEqual(told(kept, SHAPE, story), bad("BadStory", index=2))
        self.assertEqual(kept(SHAPE, (*story[:2], ((TWO, SYNC), (2, ())))), (1, 2, 3))
        self.assertEqual(kept((3, 6), story), (1, 2, 2))

    def test_deeds_behind_the_story(self):
        for deeds, index in bad_deeds(SHAPE):
            self.assertEqual(told(reach, SHAPE, STORY, deeds, None), bad("BadDeeds", index=index))
        self.assertEqual(told(reach, SHAPE, STORY, (TWO, ONE), None), bad("RingFull", index=1))
        self.assertEqual(told(reach, SHAPE, STORY, (TWO, None, ONE), None), bad("BadDeeds", index=1))

    def test_counts_behind_the_deeds(self):
        for count in [*NO_INTEGERS, -1, 2, 10 ** 30]:
            self.assertEqual(told(reach, SHAPE, STORY, (TWO,), count), bad("BadCount"))
        self.assertEqual(told(reach, SHAPE, STORY, (), 1), bad("BadCount"))

    def test_what_a_reading_is_asked(self):
        # A life begins behind what the cut left, so its stamps and its epoch are beyond all that stands there.
        image = left(SHAPE, STORY)
        again = after(SHAPE, image, (TWO,))
        block = [block for block, before in zip(again, image) if block != before][0]
        self.assertEqual(label_of(block)[3:5], (2, 3))
        self.assertEqual(stamps_of(block), (5, 5))
        self.assertEqual(can_come(SHAPE, image, (TWO,), 1)[0][0], 2)


if __name__ == "__main__":
    unittest.main()
