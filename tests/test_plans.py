import random
import unittest
from functools import lru_cache
from itertools import combinations, product

from cutledger.cuts import cut_image, promise
from cutledger.disks import blank_disk
from cutledger.lives import after, steps
from cutledger.plans import cheapest, fewest_checks, least_blocks, shows_cheapest, with_syncs
from helpers import ANYTHING, CHECK, NEVER, NO_INTEGERS, NO_TUPLES, SYNC, TIDY, bad, blank, fails, told, with_blocks, write
from model import model_promise
from scenes import cut_often, random_batch, random_deeds, random_shape
from test_disks import BAD_PAGES, BAD_SHAPES, bad_images
from test_lives import bad_deeds

SHAPE = (3, 4)
BLANK = blank_disk(SHAPE)
MOST = 2 ** 32 - 1
WITH_BATCHES = [fewest_checks, least_blocks, cheapest]
BATCHES = (((0, (1,)), (1, ())), ((2, ()),))


def blocks_written(shape, deeds):
    """How many blocks deeds write on a blank disk, None if they can't all be done."""
    if fails("RingFull", steps, shape, blank_disk(shape), deeds):
        return None
    return sum(step[0] == "block" for step in steps(shape, blank_disk(shape), deeds))


def with_checks(batches, places):
    """The deeds that write batches with a check behind each of these numbers of batches."""
    deeds = []
    for many in range(len(batches) + 1):
        deeds += [CHECK] * places.count(many)
        if many < len(batches):
            deeds.append(("write", batches[many]))
    return tuple(deeds)


def all_places(many):
    """All places of checks among so many batches, the places ascending, none twice."""
    for few in range(many + 2):
        yield from combinations(range(many + 1), few)


def random_batches(chosen, shape, many):
    return tuple(random_batch(chosen, shape[0], chosen.randint(1, shape[1])) for _ in range(many))


class Examples(unittest.TestCase):
    def test_examples(self):
        self.assertEqual(
            [fewest_checks((3, 2), BATCHES), least_blocks((3, 2), BATCHES)],
            [(("write", ((0, (1,)), (1, ()))), ("check",), ("write", ((2, ()),))), 6])
        self.assertEqual([shows_cheapest((3, 2), BATCHES, fewest_checks((3, 2), BATCHES)), least_blocks((3, 3), BATCHES)], [True, 3])
        self.assertEqual(
            with_syncs((3, 4), BLANK, (("write", ((2, ()),)), ("write", ((2, ()),))), 1),
            (("write", ((2, ()),)), ("sync",), ("write", ((2, ()),))))


class Checks(unittest.TestCase):
    def test_by_all_places(self):
        chosen = random.Random(91)
        for many in range(7):
            for _ in range(5):
                shape = (chosen.randint(1, 5), chosen.randint(2, 7))
                batches = random_batches(chosen, shape, many)
                costs = {}
                for places in all_places(many):
                    cost = blocks_written(shape, with_checks(batches, places))
                    if cost is not None:
                        costs[places] = cost
                fewest = min(len(places) for places in costs)
                latest = max(places for places in costs if len(places) == fewest)
                # Each check is as late as in any other row of so few.
                for places in costs:
                    if len(places) == fewest:
                        self.assertTrue(all(one <= other for one, other in zip(places, latest)))
                self.assertEqual(fewest_checks(shape, batches), with_checks(batches, latest))
                least = min(costs.values())
                self.assertEqual(least_blocks(shape, batches), least)
                self.assertEqual(blocks_written(shape, cheapest(shape, batches)), least)
                for places in all_places(many):
                    self.assertIs(shows_cheapest(shape, batches, with_checks(batches, places)), costs.get(places) == least)

    def test_up_to_twenty_batches(self):
        chosen = random.Random(92)
        for many in (0, 1, 5, 10, 15, 19, 20):
            for _ in range(6):
                shape = (chosen.randint(1, 12), chosen.randint(2, 20))
                batches = random_batches(chosen, shape, many)
                self.check_long(shape, batches)
        batches = tuple(((number, ()),) for number in range(20))
        for ring in (2, 3, 7, 19, 20, 64):
            self.check_long((64, ring), batches)
            self.check_long((1, ring), (((0, (1,)),),) * 20)

    def check_long(self, shape, batches):
        sizes = [len(batch) for batch in batches]

        @lru_cache(maxsize=None)
        def cost(done, since):
            """The least number of blocks of checks behind so many batches, of which some are since the last check."""
            if sum(sizes[since:done]) > shape[1]:
                return 10 ** 9
            ends = cost(done + 1, since) if done < len(sizes) else 0
            pages = set(number for batch in batches[since:done] for number, _ in batch)
            return min(ends, 1 + len(pages) + cost(done, done)) if since < done else ends

        least = cost(0, 0) + sum(sizes)
        self.assertEqual(least_blocks(shape, batches), least)
        plan = cheapest(shape, batches)
        self.assertEqual(blocks_written(shape, plan), least)
        self.assertEqual([deed[1] for deed in plan if deed != CHECK], list(batches))
        self.assertIs(shows_cheapest(shape, batches, plan), True)
        few = fewest_checks(shape, batches)
        self.assertEqual([deed[1] for deed in few if deed != CHECK], list(batches))
        self.assertIs(shows_cheapest(shape, batches, few), blocks_written(shape, few) == least)
        # A check stands only where the next write would not fit, and is the first that is needed.
        room = shape[1]
        for ahead, deed in zip((None, *few), few):
            if deed == CHECK:
                room = shape[1]
            else:
                self.assertEqual(ahead == CHECK, len(deed[1]) + (shape[1] - room if ahead != CHECK else held) > shape[1])
                room -= len(deed[1])
                held = shape[1] - room

    def test_pages_written_often_make_checks_cheap_late_or_early(self):
        # A check behind the first batch copies one page, behind the second one three.
        batches = (((0, ()),), ((0, ()), (1, ()), (2, ())), ((0, ()),))
        self.assertEqual(fewest_checks((3, 4), batches), with_checks(batches, (2,)))
        self.assertEqual(least_blocks((3, 4), batches), 5 + 2)
        self.assertEqual(cheapest((3, 4), batches), with_checks(batches, (1,)))
        self.assertIs(shows_cheapest((3, 4), batches, with_checks(batches, (2,))), False)

    def test_more_checks_may_be_no_cheaper(self):
        batches = (((0, ()),),) * 4
        self.assertEqual(least_blocks((1, 2), batches), 4 + 2)
        for places, right in [((2,), True), ((1, 3), False), ((2, 4), False), ((0, 2), False), ((2, 2), False), ((), False)]:
            self.assertIs(shows_cheapest((1, 2), batches, with_checks(batches, places)), right)

    def test_more_of_the_cheapest(self):
        # A check may stand behind the first or the second of three batches.
        batches = (((0, ()),), ((0, ()),), ((0, ()),))
        for places in [(1,), (2,)]:
            self.assertIs(shows_cheapest((1, 2), batches, with_checks(batches, places)), True)
        self.assertEqual(fewest_checks((1, 2), batches), with_checks(batches, (2,)))

    def test_no_batches(self):
        self.assertEqual([fewest_checks(SHAPE, ()), least_blocks(SHAPE, ()), cheapest(SHAPE, ())], [(), 0, ()])
        self.assertIs(shows_cheapest(SHAPE, (), ()), True)
        for value in [(CHECK,), (SYNC,), ((),), None, [], 0, ""]:
            self.assertIs(shows_cheapest(SHAPE, (), value), False)

    def test_a_batch_that_fills_the_ring(self):
        full = tuple((number, ()) for number in range(3))
        self.assertEqual(fewest_checks((3, 3), (full, full)), with_checks((full, full), (1,)))
        self.assertEqual(least_blocks((3, 3), (full, full)), 10)


class Shown(unittest.TestCase):
    def test_any_value(self):
        batches = (((0, (1,)), (1, ())), ((2, ()),))
        right = fewest_checks((3, 2), batches)
        one, two = right[0], right[2]
        wrong = [
            *ANYTHING, list(right), right[:2], right[1:], (one, two), (two, CHECK, one), (*right, two), (one, SYNC, CHECK, two),
            (one, CHECK, TIDY, two), (one, CHECK, CHECK, two), (*right, CHECK), (CHECK, *right), (one, ["check"], two), (one, None, two),
            (one, CHECK, list(two)), (one, CHECK, ("write", [(2, ())])), (one, CHECK, ("write", ((2, []),))), (one, "check", two),
            (("write", ((0, (True,)), (1, ()))), CHECK, two), (("write", ((False, (1,)), (1, ()))), CHECK, two), (*right, SYNC),
            (("write", ((0, (2,)), (1, ()))), CHECK, two), (("write", ((0, (1,)),)), CHECK, two), 6, (right,), ((0, (1,)), (1, ())),
            (one, CHECK, ("write", ((3, ()),))), (CHECK,) * 41, (one, *(CHECK,) * 38, two), (*(CHECK,) * 39, *right),
        ]
        self.assertIs(shows_cheapest((3, 2), batches, right), True)
        for value in wrong:
            self.assertIs(shows_cheapest((3, 2), batches, value), False)

    def test_syncs_write_no_blocks_but_are_no_such_deeds(self):
        batches = (((0, ()),), ((1, ()),))
        self.assertIs(shows_cheapest(SHAPE, batches, (("write", batches[0]), SYNC, ("write", batches[1]))), False)
        self.assertIs(shows_cheapest(SHAPE, batches, (("write", batches[0]), ("write", batches[1]))), True)


class Syncs(unittest.TestCase):
    def most_unsure(self, shape, image, deeds):
        life = steps(shape, image, deeds)
        spans = [model_promise(shape, image, life, count) for count in range(len(life) + 1)]
        self.assertEqual(spans, [promise(shape, image, deeds, count) for count in range(len(life) + 1)])
        return max(whole - safe for safe, whole in spans)

    def put_in(self, deeds, places):
        """The deeds with a sync ahead of each deed at these places."""
        return tuple(deed for at, one in enumerate((*deeds, None)) for deed in (*[SYNC] * (at in places), *[one] * (at < len(deeds))))

    def test_by_all_places(self):
        chosen = random.Random(93)
        for _ in range(40):
            shape = (chosen.randint(1, 3), chosen.randint(2, 8))
            image = cut_often(chosen, shape, chosen.randint(0, 2))
            deeds = random_deeds(chosen, shape, image, 6, "wwwwwsct")
            for most in (1, 2, 3):
                right = [places for places in all_places(len(deeds))
                         if self.most_unsure_quickly(deeds, places) <= most]
                fewest = min(len(places) for places in right)
                latest = max(places for places in right if len(places) == fewest)
                found = with_syncs(shape, image, deeds, most)
                self.assertEqual(found, self.put_in(deeds, latest))
                self.assertLessEqual(self.most_unsure(shape, image, found), most)
                for places in right:
                    if len(places) == fewest:
                        self.assertTrue(all(one <= other for one, other in zip(places, latest)))

    def most_unsure_quickly(self, deeds, places):
        unsure, greatest = 0, 0
        for deed in self.put_in(deeds, places):
            unsure = unsure + 1 if deed[0] == "write" else 0
            greatest = max(greatest, unsure)
        return greatest

    def test_each_most(self):
        shape = (1, 40)
        deeds = (write((0, ())),) * 20
        for most in range(1, 41):
            found = with_syncs(shape, blank_disk(shape), deeds, most)
            self.assertEqual(found.count(SYNC), (20 - 1) // most)
            self.assertEqual([deed for deed in found if deed != SYNC], list(deeds))
            if most < 6:
                self.assertEqual(self.most_unsure(shape, blank_disk(shape), found), most)
        self.assertEqual(with_syncs(shape, blank_disk(shape), deeds, 40), deeds)

    def test_any_deed_but_a_write_has_a_sync(self):
        one = write((0, (1,)))
        for deed in (SYNC, CHECK, TIDY):
            deeds = (one, one, deed, one, one, one)
            self.assertEqual(
                with_syncs((1, 8), blank_disk((1, 8)), deeds, 2), (one, one, deed, one, one, SYNC, one))
            self.assertEqual(with_syncs((1, 8), blank_disk((1, 8)), deeds, 3), deeds)

    def test_what_a_life_begins_with_is_sure(self):
        image = cut_image((1, 8), blank_disk((1, 8)), (write((0, ())),) * 3, (3, (8, 8, 8)))
        self.assertEqual(with_syncs((1, 8), image, (write((0, ())),) * 2, 2), (write((0, ())),) * 2)

    def test_more_than_forty_deeds(self):
        shape = (1, 64)
        one = write((0, ()))
        self.assertEqual(len(with_syncs(shape, blank_disk(shape), (one,) * 27, 2)), 40)
        self.assertEqual(told(with_syncs, shape, blank_disk(shape), (one,) * 28, 2), bad("TooMany", most=40))
        self.assertEqual(told(with_syncs, shape, blank_disk(shape), (one,) * 21, 1), bad("TooMany", most=40))
        self.assertEqual(len(with_syncs(shape, blank_disk(shape), (one,) * 20, 1)), 39)
        self.assertEqual(len(with_syncs(shape, blank_disk(shape), (one,) * 40, 40)), 40)
        self.assertEqual(told(with_syncs, shape, blank_disk(shape), (one,) * 40, 39), bad("TooMany", most=40))
        self.assertEqual(len(with_syncs(shape, blank_disk(shape), (SYNC,) * 40, 1)), 40)

    def test_no_deeds(self):
        self.assertEqual(with_syncs(SHAPE, BLANK, (), 1), ())


class WrongValues(unittest.TestCase):
    def calls(self):
        return [(call, ()) for call in WITH_BATCHES] + [(shows_cheapest, (None,))]

    def wrong_batches(self):
        """Wrong batches of a store of three pages with the error's index."""
        wrong = [(value, None) for value in NO_TUPLES] + [((((0, ()),),) * 21, None), ((None,) * 21, None), ([((0, ()),)], None)]
        things = [value for value in ANYTHING if value != ()] + [
            (), ((3, ()),), ((0, ()), (3, ())), ((-1, ()),), ((0, ()), (0, ())), ((1, ()), (0, ())), ((True, ()),), [(0, ())], ((0,),),
            (0, ()), ((0, None),), ((64, ()),), (("0", ()),), ([0, ()],), ("write", ((0, ()),)),
        ]
        things += [((0, page),) for page in BAD_PAGES]
        wrong += [((thing,), 0) for thing in things]
        return wrong + [((((0, ()),), ((1, ()),), thing, None), 2) for thing in things[::2]]

    def test_shapes(self):
        for call, rest in self.calls():
            for shape in BAD_SHAPES:
                self.assertEqual(told(call, shape, None, *rest), bad("BadShape"))

    def test_batches(self):
        for batches, index in self.wrong_batches():
            for call, rest in self.calls():
                self.assertEqual(told(call, SHAPE, batches, *rest), bad("BadBatches", index=index))

    def test_batches_greater_than_the_ring(self):
        three, two = tuple((number, ()) for number in range(3)), ((0, ()), (1, ()))
        for call, rest in self.calls():
            self.assertEqual(told(call, (3, 2), (two, three, three), *rest), bad("RingFull", index=1))
            self.assertEqual(told(call, (3, 2), (three,), *rest), bad("RingFull", index=0))
            self.assertEqual(told(call, (3, 2), (three, None), *rest), bad("BadBatches", index=1))
            self.assertEqual(told(call, (3, 2), (*(two,) * 19, three), *rest), bad("RingFull", index=19))
            self.assertNotEqual(told(call, (3, 3), (two, three, three), *rest), bad("RingFull", index=1))

    def test_what_comes_ahead_of_most(self):
        harmed = (NEVER, NEVER, (0,) * 127 + (1,), *BLANK[3:])
        full = (write((0, ()), (1, ()), (2, ())),) * 2
        for most in (None, 0, 1):
            for shape in BAD_SHAPES[::3]:
                self.assertEqual(told(with_syncs, shape, None, None, most), bad("BadShape"))
            for image, index in bad_images((1, 2))[::5]:
                self.assertEqual(told(with_syncs, (1, 2), image, None, most), bad("BadImage", index=index))
            self.assertEqual(told(with_syncs, SHAPE, harmed, None, most), bad("Harmed", page=0))
            for deeds, index in bad_deeds(SHAPE):
                self.assertEqual(told(with_syncs, SHAPE, BLANK, deeds, most), bad("BadDeeds", index=index))
            self.assertEqual(told(with_syncs, SHAPE, BLANK, full, most), bad("RingFull", index=1))

    def test_most(self):
        for most in [*NO_INTEGERS, 0, -1, 41, 10 ** 30]:
            self.assertEqual(told(with_syncs, SHAPE, BLANK, (SYNC,), most), bad("BadNumber"))
            self.assertEqual(told(with_syncs, (1, 64), blank_disk((1, 64)), (write((0, ())),) * 40, most), bad("BadNumber"))

    def test_too_many_comes_last(self):
        image = with_blocks(SHAPE, {8: (MOST - 1, blank(0, 0))})
        deeds = (write((0, ())), write((1, ())))
        self.assertEqual(told(with_syncs, SHAPE, image, deeds, 1), bad("TooMany", most=MOST))
        self.assertEqual(told(with_syncs, SHAPE, image, deeds, 0), bad("BadNumber"))
        self.assertEqual(with_syncs(SHAPE, image, deeds[:1], 1), deeds[:1])

    def test_plans_can_be_done(self):
        chosen = random.Random(94)
        for _ in range(20):
            shape = random_shape(chosen)
            batches = random_batches(chosen, shape, 12)
            plain = after((shape[0], 64), blank_disk((shape[0], 64)), with_checks(batches, ()))
            self.assertEqual(len(plain), 2 + shape[0] + 64)
            for plan in (fewest_checks(shape, batches), cheapest(shape, batches)):
                self.assertIsNotNone(blocks_written(shape, plan))
        for pages, ring in product((1, 64), (2, 64)):
            self.assertEqual(fewest_checks((pages, ring), (((0, ()),),)), (write((0, ())),))


if __name__ == "__main__":
    unittest.main()
