import copy
import random
import unittest

from cutledger.cuts import cut_image, promise, waiting
from cutledger.disks import blank_disk
from cutledger.lives import after, steps
from cutledger.pagestores import PageStore
from cutledger.recovery import floor_of, head_of, recovered, state_as_of, used
from helpers import ANYTHING, CHECK, NEVER, NO_INTEGERS, NO_TUPLES, SYNC, TIDY, all_fates, bad, blank, part, told, with_blocks, write
from model import model_told
from scenes import cut_often, random_batch, random_fates, random_image, random_shape, with_random_log
from test_disks import BAD_PAGES, BAD_SHAPES, bad_images

MOST = 2 ** 32 - 1
ONE = ((0, (1, 2)), (2, (5,)))
TWO = ((1, (7,)),)


class Examples(unittest.TestCase):
    def test_examples(self):
        store = PageStore((3, 4))
        self.assertEqual(
            [store.write(((0, (1, 2)), (2, (5,)))), store.sync(), store.write(((1, (7,)),)), store.commit, store.sure, store.waiting,
             store.free, store.read(2), store.state, store.as_of(1), PageStore((3, 4), store.cut((0,))).commit,
             PageStore((3, 4), store.cut((8,))).state],
            [1, None, 2, 2, 1, 1, 1, (5,), ((1, 2), (7,), (5,)), ((1, 2), (), (5,)), 1, ((1, 2), (7,), (5,))])
        self.assertEqual(told(PageStore((3, 2)).write, ((0, ()), (1, ()), (2, ()))), bad("RingFull", index=None))


class Beside:
    """A store at work, and beside it the deeds that it did, for the functions of lives and of cuts."""

    def __init__(self, test, shape, image=None):
        self.test = test
        self.shape = shape
        self.begun = blank_disk(shape) if image is None else image
        self.store = PageStore(shape) if image is None else PageStore(shape, image)
        self.deeds = ()
        first, state = recovered(shape, self.begun)
        self.floor = floor_of(shape, self.begun)
        self.states = {commit: state_as_of(shape, self.begun, commit) for commit in range(self.floor, first + 1)}
        self.last = first

    def write(self, batch):
        self.last += 1
        self.test.assertEqual(self.store.write(batch), self.last)
        self.deeds = (*self.deeds, ("write", batch))
        self.states[self.last] = recovered(self.shape, after(self.shape, self.begun, self.deeds))[1]

    def do(self, word):
        self.test.assertIsNone({"sync": self.store.sync, "check": self.store.check, "tidy": self.store.tidy}[word]())
        self.deeds = (*self.deeds, (word,))
        if word == "check":
            self.floor = self.last

    def compare(self, chosen):
        test, store, shape = self.test, self.store, self.shape
        image = after(shape, self.begun, self.deeds)
        count = len(steps(shape, self.begun, self.deeds))
        places = waiting(shape, self.begun, self.deeds, count)
        test.assertEqual(store.image(), image)
        test.assertEqual((store.commit, store.state), recovered(shape, image))
        test.assertEqual(store.commit, self.last)
        test.assertEqual(store.free, shape[1] - used(shape, image))
        test.assertEqual(store.waiting, len(places))
        test.assertEqual(store.sure, promise(shape, self.begun, self.deeds, count)[0])
        test.assertEqual([store.read(number) for number in range(shape[0])], list(store.state))
        for commit in range(self.floor, self.last + 1):
            test.assertEqual(store.as_of(commit), self.states[commit])
        for commit in (self.floor - 1, self.last + 1, -1):
            test.assertEqual(told(store.as_of, commit), bad("BadCommit"))
        fates = random_fates(chosen, len(places))
        test.assertEqual(store.cut(fates), cut_image(shape, self.begun, self.deeds, (count, fates)))
        test.assertEqual(store.cut((8,) * len(places)), image)
        test.assertEqual(store.image(), image)


class AtWork(unittest.TestCase):
    def work(self, chosen, beside, many, words="wwwwsct"):
        beside.compare(chosen)
        for _ in range(many):
            word = chosen.choice(words)
            if word == "w":
                batch = random_batch(chosen, beside.shape[0], beside.shape[1])
                if len(batch) > beside.store.free:
                    before = copy.deepcopy(vars(beside.store.life))
                    self.assertEqual(told(beside.store.write, batch), bad("RingFull", index=None))
                    self.assertEqual(vars(beside.store.life), before)
                else:
                    beside.write(batch)
            else:
                beside.do({"s": "sync", "c": "check", "t": "tidy"}[word])
            beside.compare(chosen)

    def test_begun_with_a_blank_disk(self):
        chosen = random.Random(111)
        for _ in range(25):
            self.work(chosen, Beside(self, random_shape(chosen)), 14)

    def test_begun_with_what_cuts_left(self):
        chosen = random.Random(112)
        for _ in range(25):
            shape = random_shape(chosen)
            self.work(chosen, Beside(self, shape, cut_often(chosen, shape, chosen.randint(1, 4))), 10)

    def test_many_checks_and_no_check(self):
        chosen = random.Random(113)
        for words in ("wwc", "wwst", "wwwww", "wtc"):
            for _ in range(4):
                self.work(chosen, Beside(self, (3, 9)), 14, words)

    def test_begun_with_any_images(self):
        chosen = random.Random(114)
        done = 0
        while done < 20:
            shape = random_shape(chosen)
            image = with_random_log(chosen, shape, random_image(chosen, shape))
            if told(recovered, shape, image)[0] != "Harmed":
                done += 1
                self.work(chosen, Beside(self, shape, image), 6)

    def test_cut_again_and_again(self):
        chosen = random.Random(115)
        shape = (4, 9)
        store = PageStore(shape)
        batches = []
        for _ in range(30):
            for _ in range(chosen.randint(0, 6)):
                batch = random_batch(chosen, 4, 3)
                if len(batch) > store.free:
                    store.check()
                batches.append(batch)
                self.assertEqual(store.write(batch), len(batches))
                if chosen.randrange(4) == 0:
                    chosen.choice((store.sync, store.tidy))()
            sure, last = store.sure, store.commit
            store = PageStore(shape, store.cut(random_fates(chosen, store.waiting)))
            self.assertTrue(sure <= store.commit <= last)
            batches = batches[:store.commit]
            state = [()] * 4
            for batch in batches:
                for number, page in batch:
                    state[number] = page
            self.assertEqual(store.state, tuple(state))
            self.assertEqual((store.waiting, store.sure), (0, store.commit))

    def test_all_fates_of_a_cut(self):
        store = PageStore((3, 6))
        store.write(TWO)
        store.sync()
        store.write(ONE)
        store.write(TWO)
        for fates in all_fates(3):
            again = PageStore((3, 6), store.cut(fates))
            self.assertEqual(again.commit, 1 + (fates[:2] == (8, 8)) + (fates == (8, 8, 8)))
        self.assertEqual((store.commit, store.sure, store.waiting, store.free), (3, 1, 3, 2))

    def test_more_deeds_than_a_life_has(self):
        store = PageStore((2, 3))
        for at in range(1, 200):
            self.assertEqual(store.write(((at % 2, (at,)),)), at)
            (store.check, store.sync)[at % 2]()
            self.assertEqual(store.state, ((at - at % 2,) if at > 1 else (), (at - 1 + at % 2,)))
            self.assertEqual((store.waiting, store.sure, store.free), (0, at, 3 - at % 2))
        self.assertEqual(recovered((2, 3), store.image()), (199, ((198,), (199,))))

    def test_two_stores_on_one_image(self):
        image = after((3, 5), blank_disk((3, 5)), (write(*ONE), SYNC))
        one, other = PageStore((3, 5), image), PageStore((3, 5), image)
        one.write(TWO)
        self.assertEqual((one.commit, other.commit, other.waiting, other.image()), (2, 1, 0, image))

    def test_values_that_were_told_stay(self):
        store = PageStore((3, 5))
        state, image = store.state, store.image()
        store.write(ONE)
        self.assertEqual((state, image), (((),) * 3, blank_disk((3, 5))))
        self.assertEqual(store.as_of(0), state)


class Kept(unittest.TestCase):
    def test_states_from_the_floor_on(self):
        shape = (2, 6)
        deeds = (write((0, (1,))), write((1, (2,))), CHECK, write((0, (3,))), write((1, (4,))))
        image = after(shape, blank_disk(shape), deeds)
        store = PageStore(shape, image)
        self.assertEqual([store.as_of(commit) for commit in (2, 3, 4)], [((1,), (2,)), ((3,), (2,)), ((3,), (4,))])
        for commit in (-1, 0, 1, 5, 10 ** 30):
            self.assertEqual(told(store.as_of, commit), bad("BadCommit"))
        store.write(((0, (5,)),))
        self.assertEqual((store.as_of(2), store.as_of(5)), (((1,), (2,)), ((5,), (4,))))
        store.check()
        self.assertEqual(store.as_of(5), ((5,), (4,)))
        self.assertEqual(told(store.as_of, 4), bad("BadCommit"))

    def test_a_floor_beyond_the_head(self):
        # The head's check was of commit 2, but page 0 stands as of commit 3: a check was cut ahead of its head.
        shape = (2, 4)
        deeds = (write((0, (1,))), write((1, (2,))), CHECK, write((0, (3,))), write((1, (4,))), CHECK)
        life = steps(shape, blank_disk(shape), deeds)
        image = cut_image(shape, blank_disk(shape), deeds, (len(life) - 2, ()))
        self.assertEqual((head_of(shape, image)[2], recovered(shape, image)), (2, (4, ((3,), (4,)))))
        store = PageStore(shape, image)
        self.assertEqual(floor_of(shape, image), 4)
        self.assertEqual(store.as_of(4), ((3,), (4,)))
        self.assertEqual(told(store.as_of, 3), bad("BadCommit"))
        self.assertEqual(model_told(shape, image, 3)[1], None)


class WrongValues(unittest.TestCase):
    def test_shapes_and_images(self):
        for shape in BAD_SHAPES:
            self.assertEqual(told(PageStore, shape), bad("BadShape"))
            self.assertEqual(told(PageStore, shape, 7), bad("BadShape"))
        for image, index in bad_images((1, 2)):
            if image is not None:
                self.assertEqual(told(PageStore, (1, 2), image), bad("BadImage", index=index))
        self.assertEqual(PageStore((1, 2), None).image(), blank_disk((1, 2)))
        harmed = (NEVER, NEVER, NEVER, (0,) * 127 + (1,), *blank_disk((3, 4))[4:])
        self.assertEqual(told(PageStore, (3, 4), harmed), bad("Harmed", page=1))

    def calls_that_fail(self, store):
        """Calls with wrong values and their errors."""
        for batch in [*NO_TUPLES, ()]:
            yield store.write, batch, bad("BadBatch", index=None)
        for batch, index in [
            ((None,), 0), (((3, ()),), 0), (((0, ()), (3, ())), 1), (((0, ()), (0, ())), 1), (((0, ()), (1, ()), (64, ())), 2),
            (((3, ()), None), 1), (((True, ()),), 0), ((0, ()), 0), (((0, ()), [1, ()]), 1), (((-1, ()),), 0),
        ]:
            yield store.write, batch, bad("BadBatch", index=index)
        for page in BAD_PAGES:
            yield store.write, ((0, ()), (1, page)), bad("BadBatch", index=1)
        yield store.write, ((0, ()), (1, ()), (2, ())), bad("RingFull", index=None)
        for number in [*NO_INTEGERS, -1, 3, 10 ** 30]:
            yield store.read, number, bad("BadNumber")
        for commit in [*NO_INTEGERS, -1, 4, 10 ** 30]:
            yield store.as_of, commit, bad("BadCommit")
        for fates in [*ANYTHING, (8,), (8, 8, 8), (8, 9), (8, -1), (8, True), (None, 8), [8, 8], ("8", 8), ((8, 8),), (2, (8, 8))]:
            if fates != (1, 2):
                yield store.cut, fates, bad("BadCut")

    def test_a_call_that_fails_changes_nothing(self):
        store = PageStore((3, 5))
        store.write(TWO)
        store.sync()
        store.write(((2, (9,)),))
        store.write(((0, ()),))
        before = copy.deepcopy((vars(store), vars(store.life)))
        for call, value, error in self.calls_that_fail(store):
            self.assertEqual(told(call, value), error, value)
            now = (vars(store), vars(store.life))
            self.assertEqual({name: now[0][name] for name in now[0] if name != "life"},
                             {name: before[0][name] for name in before[0] if name != "life"})
            self.assertEqual(now[1], before[1])

    def test_fates_where_nothing_waits(self):
        store = PageStore((1, 2))
        self.assertEqual(store.cut(()), blank_disk((1, 2)))
        for fates in [*NO_TUPLES, (8,), (0,)]:
            self.assertEqual(told(store.cut, fates), bad("BadCut"))

    def test_numbers_that_would_be_too_great(self):
        shape = (1, 4)
        too_many = bad("TooMany", most=MOST)
        image = with_blocks(shape, {6: (MOST - 2, blank(0, 0))})
        store = PageStore(shape, image)
        self.assertEqual(store.write(((0, ()),)), 1)
        self.assertEqual(told(store.check), too_many)
        self.assertEqual(told(store.write, ()), bad("BadBatch", index=None))
        self.assertIsNone(store.sync())
        self.assertEqual(store.write(((0, (1,)),)), 2)
        self.assertEqual(told(store.write, ((0, ()),)), too_many)
        self.assertEqual(told(store.tidy), None)
        self.assertEqual((store.commit, store.sure, store.state), (2, 2, ((1,),)))
        for commit, epoch in [(MOST, 1), (1, MOST)]:
            image = with_blocks(shape, {0: (5, ("head", 0, 1, epoch, commit, 0, ())), 4: (4, part(0, 1, 1, 9, 0))})
            store = PageStore(shape, image)
            self.assertEqual(told(store.write, ((0, ()),)), too_many)
            self.assertEqual(told(store.write, ((1, ()),)), bad("BadBatch", index=0))
            self.assertEqual((store.commit, store.free, store.image()), (commit, 4, image))
            if epoch == MOST:
                self.assertEqual(told(store.check), too_many)
                self.assertEqual(told(store.tidy), too_many)
                self.assertEqual(store.image(), image)
            self.assertIsNone(store.sync())

    def test_numbers_that_are_just_great_enough(self):
        shape = (1, 4)
        store = PageStore(shape, with_blocks(shape, {6: (MOST - 3, blank(0, 0))}))
        self.assertEqual(store.write(((0, (1,)),)), 1)
        self.assertIsNone(store.check())
        self.assertEqual(recovered(shape, store.image()), (1, ((1,),)))
        self.assertEqual(told(store.check), bad("TooMany", most=MOST))
        image = with_blocks(shape, {0: (5, ("head", 0, 1, 1, MOST - 1, 0, ()))})
        store = PageStore(shape, image)
        self.assertEqual(store.write(((0, ()),)), MOST)
        self.assertEqual(told(store.write, ((0, ()),)), bad("TooMany", most=MOST))
        self.assertIsNone(store.check())

    def test_a_tidy_that_writes_nothing_needs_no_numbers(self):
        shape = (1, 4)
        image = with_blocks(shape, {0: (MOST, ("head", 0, 1, MOST, 1, 0, ())), 4: (4, blank(1, 1))})
        store = PageStore(shape, image)
        self.assertIsNone(store.tidy())
        self.assertEqual(store.image(), image)
        self.assertEqual(told(store.check), bad("TooMany", most=MOST))


if __name__ == "__main__":
    unittest.main()
