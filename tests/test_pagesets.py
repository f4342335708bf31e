import random
import unittest

from cutledger.pagesets import PageSet
from helpers import ANYTHING, NO_INTEGERS, NO_TUPLES, bad, told
from test_disks import BAD_PAGES


class Examples(unittest.TestCase):
    def test_examples(self):
        pages = PageSet(((), (5,)), (0,))
        self.assertEqual([pages.take(), pages.free, pages.batch()], [0, (), ()])
        self.assertEqual(told(PageSet, (), ()), bad("BadPages"))


class Beside:
    """A page set, and beside it a plain list of pages and one of free pages."""

    def __init__(self, test, state, free):
        self.test = test
        self.set = PageSet(state, free)
        self.begun = list(state)
        self.pages = list(state)
        self.free = set(free)

    def compare(self):
        test, many = self.test, len(self.pages)
        test.assertEqual([self.set.get(number) for number in range(many)], self.pages)
        test.assertEqual(self.set.whole_state(), tuple(self.pages))
        test.assertEqual(self.set.free, tuple(sorted(self.free)))
        unlike = tuple((number, self.pages[number]) for number in range(many) if self.pages[number] != self.begun[number])
        test.assertEqual(self.set.batch(), unlike)

    def put(self, number, page):
        self.test.assertIsNone(self.set.put(number, page))
        self.pages[number] = page

    def take(self):
        if self.free:
            self.test.assertEqual(self.set.take(), min(self.free))
            self.free.remove(min(self.free))
        else:
            self.test.assertEqual(told(self.set.take), bad("NoRoom"))

    def leave(self, number):
        if number in self.free:
            self.test.assertEqual(told(self.set.leave, number), bad("BadNumber"))
        else:
            self.test.assertIsNone(self.set.leave(number))
            self.free.add(number)
            self.pages[number] = ()


class AtWork(unittest.TestCase):
    def test_any_order(self):
        chosen = random.Random(121)
        for _ in range(60):
            many = chosen.choice((1, 2, 5, 9, 64))
            state = tuple(chosen.choice(((), (1,), (1, 2), (255,) * 96)) for _ in range(many))
            beside = Beside(self, state, tuple(number for number in range(many) if chosen.randrange(2)))
            beside.compare()
            for _ in range(40):
                number = chosen.randrange(many)
                word = chosen.choice("pptl")
                if word == "p":
                    beside.put(number, chosen.choice(((), (1,), state[number], (chosen.randrange(256),) * chosen.randint(0, 96))))
                elif word == "t":
                    beside.take()
                else:
                    beside.leave(number)
                beside.compare()

    def test_taken_until_none_is_left(self):
        pages = PageSet(((),) * 64, tuple(range(64)))
        self.assertEqual([pages.take() for _ in range(64)], list(range(64)))
        self.assertEqual(pages.free, ())
        for _ in range(2):
            self.assertEqual(told(pages.take), bad("NoRoom"))
        for number in (9, 3, 63):
            pages.leave(number)
        self.assertEqual((pages.free, pages.take(), pages.free), ((3, 9, 63), 3, (9, 63)))

    def test_a_page_left_twice(self):
        pages = PageSet(((1,), (2,)), (1,))
        self.assertEqual(told(pages.leave, 1), bad("BadNumber"))
        self.assertEqual(pages.get(1), (2,))
        self.assertIsNone(pages.leave(0))
        self.assertEqual(told(pages.leave, 0), bad("BadNumber"))
        self.assertEqual((pages.free, pages.batch(), pages.whole_state()), ((0, 1), ((0, ()),), ((), (2,))))

    def test_a_page_put_back_as_it_was(self):
        pages = PageSet(((1,), (2,), ()), (2,))
        pages.put(0, (3,))
        pages.put(2, (4,))
        self.assertEqual(pages.batch(), ((0, (3,)), (2, (4,))))
        pages.put(0, (1,))
        self.assertEqual(pages.batch(), ((2, (4,)),))
        pages.leave(0)
        pages.put(2, ())
        self.assertEqual(pages.batch(), ((0, ()),))
        self.assertEqual(pages.free, (0, 2))

    def test_a_page_that_is_taken_stays_as_it_is(self):
        pages = PageSet(((1,), (2,)), (0, 1))
        self.assertEqual((pages.take(), pages.get(0), pages.batch()), (0, (1,), ()))

    def test_what_was_told_stays(self):
        state = ((1,), ())
        pages = PageSet(state, (1,))
        free, batch, whole = pages.free, pages.batch(), pages.whole_state()
        pages.take()
        pages.put(0, (2,))
        self.assertEqual((free, batch, whole, state), ((1,), (), ((1,), ()), ((1,), ())))

    def test_back_to_a_mark(self):
        pages = PageSet(((1,), (2,), ()), (2,))
        pages.put(0, (9,))
        mark = pages.mark()
        before = (pages.whole_state(), pages.free)
        for _ in range(2):
            pages.take()
            pages.put(1, ())
            pages.leave(0)
            self.assertNotEqual((pages.whole_state(), pages.free), before)
            pages.back_to(mark)
            self.assertEqual((pages.whole_state(), pages.free), before)


class WrongValues(unittest.TestCase):
    def test_states(self):
        states = [*NO_TUPLES, (), ((),) * 65, [()], (None,), ((), [])] + [((), page) for page in BAD_PAGES]
        for state in states:
            for free in ((), (0,), None):
                self.assertEqual(told(PageSet, state, free), bad("BadPages"), state)
        self.assertEqual(PageSet(((),) * 64, ()).free, ())

    def test_free_pages(self):
        for free in [*NO_TUPLES, (2,), (-1,), (0, 0), (1, 0), (0, 2), (True,), (None,), ("0",), ((0,),), [0], (0, None), (10 ** 30,)]:
            self.assertEqual(told(PageSet, ((), ()), free), bad("BadPages"), free)
        for free in [(), (0,), (1,), (0, 1)]:
            self.assertEqual(PageSet(((), ()), free).free, free)

    def test_numbers_and_pages(self):
        pages = PageSet(((), (1,)), (0,))
        for number in [*NO_INTEGERS, -1, 2, 10 ** 30]:
            self.assertEqual(told(pages.get, number), bad("BadNumber"))
            self.assertEqual(told(pages.leave, number), bad("BadNumber"))
            for page in [(), None, (256,)]:
                self.assertEqual(told(pages.put, number, page), bad("BadNumber"))
        for page in [*BAD_PAGES, *[value for value in ANYTHING if not isinstance(value, tuple)]]:
            self.assertEqual(told(pages.put, 0, page), bad("BadPage"))
        self.assertEqual((pages.free, pages.batch()), ((0,), ()))
        pages.put(0, (255,) * 96)
        self.assertEqual(pages.get(0), (255,) * 96)


if __name__ == "__main__":
    unittest.main()
