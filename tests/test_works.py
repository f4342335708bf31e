import random
import unittest

from cutledger.disks import blank_disk
from cutledger.errors import CutError
from cutledger.ledgers import Ledger, do_again
from cutledger.works import Base, Work
from helpers import ANYTHING, bad, told
from serial import ERRORS, Serial, Shadow, content, first_broken
from test_tables import BAD_NAMES

PETS = ("pets", (("id", "number"), ("name", "text"), ("age", "number")), 1)
BY_AGE = ("byage", "pets", ("age",))
ONE_NAME = ("onename", "pets", ("name",), None)
KINDS = ("vets", (("id", "number"),), 1)
SHAPE = (24, 32)


def base_with(*calls, shape=SHAPE):
    """A base with one commit of calls."""
    base = Base(shape)
    work = base.begin()
    do(work, *calls)
    work.finish()
    return base


def do(work, *calls):
    """Do calls, none of which may be refused; the answer of the last one."""
    answer = None
    for word, *arguments in calls:
        answer = getattr(work, word)(*arguments)
    return answer


def committed(base, *calls):
    """The number of a commit of calls in a work of their own."""
    work = base.begin()
    do(work, *calls)
    return work.finish()


def pets(*rows):
    return [("make", PETS), ("make_index", BY_AGE), *[("put", "pets", row) for row in rows]]


ROWS = ((1, "Ada", 5), (2, "Bo", 5), (3, "Cy", 9), (7, "Di", 2))


class Examples(unittest.TestCase):
    def test_example(self):
        base = Base((8, 8))
        work = base.begin()
        work.make(("pets", (("id", "number"),), 1))
        self.assertEqual([work.finish(), base.commit, base.begin().schemas()], [1, 1, [("pets", (("id", "number"),), 1)]])


class OneWork(unittest.TestCase):
    def test_a_work_has_the_calls_of_tables(self):
        base = Base(SHAPE)
        work = base.begin()
        self.assertIsInstance(work, Work)
        self.assertIsNone(do(work, *pets(*ROWS)))
        self.assertIsNone(work.make_guard(ONE_NAME))
        self.assertEqual((work.schemas(), work.indexes(), work.guards()), ([PETS], [BY_AGE], [ONE_NAME]))
        self.assertEqual(work.rows("pets", (2,), (7,)), [ROWS[1], ROWS[2]])
        self.assertEqual(work.rows_by("byage", (5,), None), [ROWS[0], ROWS[1], ROWS[2]])
        self.assertEqual((work.get("pets", (3,)), work.get("pets", (4,))), (ROWS[2], None))
        self.assertEqual((work.drop("pets", (3,)), work.drop("pets", (3,)), work.get("pets", (3,))), (True, False, None))
        self.assertIsNone(work.remove("onename"))
        self.assertEqual((work.guards(), base.commit, base.begin().schemas()), ([], 0, []))
        self.assertEqual(work.finish(), 1)
        self.assertEqual(content(base.begin()), ([PETS], [BY_AGE], [], {"pets": [ROWS[0], ROWS[1], ROWS[3]]},
                                                 {"byage": [ROWS[3], ROWS[0], ROWS[1]]}))

    def test_others_are_not_seen_before_they_finish_nor_behind_the_begin(self):
        base = base_with(*pets(*ROWS))
        one, other = base.begin(), base.begin()
        one.put("pets", (1, "x", 1))
        one.drop("pets", (2,))
        self.assertEqual(other.rows("pets", None, None), list(ROWS))
        self.assertEqual(one.finish(), 2)
        self.assertEqual(other.rows("pets", None, None), list(ROWS))
        self.assertEqual(other.rows_by("byage", None, None), [ROWS[3], ROWS[0], ROWS[1], ROWS[2]])
        self.assertEqual(base.begin().rows("pets", None, (3,)), [(1, "x", 1)])

    def test_leave_forgets(self):
        base = base_with(*pets(*ROWS))
        state = base.state
        work = base.begin()
        work.remove("pets")
        self.assertIsNone(work.leave())
        self.assertEqual((base.state, base.commit, base.begin().rows("pets", None, None)), (state, 1, list(ROWS)))

    def test_numbers_of_commits(self):
        base = base_with(*pets(*ROWS))
        reading, idle, same, gone, changing = [base.begin() for _ in range(5)]
        self.assertEqual(reading.get("pets", (3,)), ROWS[2])
        same.put("pets", ROWS[0])
        gone.drop("pets", (99,))
        changing.put("pets", (5, "E", 5))
        self.assertEqual(changing.finish(), 2)
        self.assertEqual(committed(base, ("put", "pets", (6, "F", 5))), 3)
        self.assertEqual((same.finish(), gone.finish()), (3, 3))
        self.assertEqual((reading.finish(), idle.finish()), (1, 1))
        self.assertEqual((base.commit, base.begin().finish()), (3, 3))

    def test_what_is_put_and_taken_away_again_changes_no_page(self):
        for seed in range(20):
            chosen = random.Random(3900 + seed)
            base = base_with(*pets(*[(at, chosen.choice(("", "abcdefghij")), chosen.randrange(9)) for at in range(0, 60, 2)]), shape=(40, 40))
            state = base.state
            work = base.begin()
            held = {row[0]: row for row in work.rows("pets", None, None)}
            keys = [chosen.randrange(60) for _ in range(chosen.choice((1, 5, 20)))]
            for key in keys:
                do(work, chosen.choice([("drop", "pets", (key,)), ("put", "pets", (key, "zzzzzzzzzz", 9)), ("put", "pets", (key, "", 0))]))
            do(work, ("make", KINDS), ("put", "vets", (1,)), ("make_index", ("i", "vets", ("id",))), ("make_guard", ("g", "pets", ("age",), "vets")))
            chosen.shuffle(keys)
            for key in keys:
                do(work, ("put", "pets", held[key]) if key in held else ("drop", "pets", (key,)))
            do(work, ("remove", "vets"))
            self.assertEqual((work.finish(), base.commit, base.state), (1, 1, state))

    def test_a_call_that_is_refused_changes_nothing(self):
        base = base_with(*pets(*ROWS))
        work = base.begin()
        self.assertEqual(told(work.put, "pets", (1,)), bad("BadRow"))
        self.assertEqual(told(work.make, PETS), bad("Taken", name="pets"))
        self.assertEqual(told(work.remove, "no"), bad("NoTable", name="no"))
        self.assertEqual(told(work.drop, "pets", ()), bad("BadKey"))
        committed(base, ("put", "pets", (5, "E", 5)))
        self.assertEqual((work.finish(), base.commit), (1, 2))

    def test_behind_an_image(self):
        base = base_with(*pets(*ROWS))
        later = Base(SHAPE, base.cut((8,) * base.waiting))
        self.assertEqual((later.commit, later.sure, later.waiting, later.state), (1, 1, 0, base.state))
        self.assertEqual(content(later.begin()), content(base.begin()))
        self.assertEqual(committed(later, ("drop", "pets", (1,))), 2)
        self.assertEqual(base.begin().get("pets", (1,)), ROWS[0])

    def test_properties_are_those_of_the_store(self):
        base = base_with(*pets(*ROWS))
        self.assertEqual((base.commit, base.sure), (1, 0))
        self.assertGreater(base.waiting, 0)
        self.assertIsNone(base.sync())
        self.assertEqual((base.commit, base.sure, base.waiting), (1, 1, 0))
        committed(base, ("put", "pets", (1, "x", 1)))
        self.assertEqual((base.commit, base.sure), (2, 1))
        self.assertIsNone(base.check())
        self.assertEqual((base.commit, base.sure, base.waiting), (2, 2, 0))
        for name in ("commit", "sure", "waiting", "state"):
            self.assertEqual(getattr(base, name), getattr(base.store, name))


class Clashes(unittest.TestCase):
    """Each row: what a work calls, what another one commits meanwhile, and the name of the clash, None without."""

    def check(self, mine, others, name, start=()):
        base = base_with(*pets(*ROWS), ("make", KINDS), ("put", "vets", (1,)), ("make_guard", ("g", "pets", ("age", "id"), None)), *start)
        work = base.begin()
        do(work, *mine)
        committed(base, *others)
        before = (base.state, base.commit)
        if name is None:
            self.assertIsInstance(work.finish(), int)
        else:
            self.assertEqual(told(work.finish), bad("Clash", table=name), (mine, others))
            self.assertEqual((base.state, base.commit), before)
            self.assertEqual(told(work.finish), bad("Ended"))

    CHANGE = ("put", "pets", (2, "x", 5))
    MADE = ("put", "pets", (4, "x", 6))
    GONE = ("drop", "pets", (2,))
    ELSEWHERE = ("put", "pets", (50, "x", 100))
    MINE = ("put", "pets", (90, "y", 200))

    def test_get_and_drop(self):
        for look in [("get", "pets", (2,)), ("drop", "pets", (2,))]:
            self.check([look, self.MINE], [self.CHANGE], "pets")
            self.check([look, self.MINE], [self.GONE], "pets")
            self.check([look, self.MINE], [self.MADE, self.ELSEWHERE, ("drop", "pets", (1,))], None)
        for look in [("get", "pets", (4,)), ("drop", "pets", (4,))]:
            self.check([look, self.MINE], [self.MADE], "pets")
            self.check([look, self.MINE], [self.CHANGE, self.GONE], None)

    def test_a_work_that_only_looks_clashes_too(self):
        self.check([("get", "pets", (2,))], [self.CHANGE], "pets")
        self.check([("get", "pets", (2,))], [self.MADE], None)

    def test_put_does_not_look(self):
        self.check([("put", "pets", (2, "mine", 1))], [self.CHANGE], None)
        self.check([("put", "pets", (2, "mine", 1))], [self.GONE], None)
        self.check([("put", "pets", (4, "mine", 1))], [self.MADE], None)

    def test_a_row_that_stays_as_it_was(self):
        self.check([("get", "pets", (2,)), self.MINE], [("put", "pets", ROWS[1]), self.ELSEWHERE], None)
        self.check([("get", "pets", (2,)), self.MINE], [self.GONE, ("put", "pets", ROWS[1]), self.ELSEWHERE], None)
        self.check([("get", "pets", (4,)), self.MINE], [self.MADE, ("drop", "pets", (4,)), self.ELSEWHERE], None)

    def test_rows(self):
        for low, high in [(None, None), ((2,), (3,)), ((), None), ((2,), None), (None, (3,)), ((-5,), (1000000,))]:
            self.check([("rows", "pets", low, high), self.MINE], [self.CHANGE], "pets")
            self.check([("rows", "pets", low, high), self.MINE], [self.GONE], "pets")
        for low, high in [((3,), None), (None, (2,)), ((), ()), ((3,), (2,)), ((2,), (2,)), ((4,), (9,))]:
            self.check([("rows", "pets", low, high), self.MINE], [self.CHANGE], None)
        for low, high in [((4,), (5,)), ((3,), (7,)), (None, (5,))]:
            self.check([("rows", "pets", low, high), self.MINE], [self.MADE], "pets")
        for low, high in [((5,), (7,)), (None, (4,))]:
            self.check([("rows", "pets", low, high), self.MINE], [self.MADE], None)

    def test_rows_by(self):
        for low, high in [(None, None), ((5,), (6,)), ((5,), None), (None, (6,)), ((), None)]:
            self.check([("rows_by", "byage", low, high), self.MINE], [self.CHANGE], "pets")
            self.check([("rows_by", "byage", low, high), self.MINE], [self.GONE], "pets")
        for low, high in [((6,), None), (None, (5,)), ((5,), (5,)), ((), ()), ((9,), (5,))]:
            self.check([("rows_by", "byage", low, high), self.MINE], [self.CHANGE], None)
        self.check([("rows_by", "byage", (6,), (7,)), self.MINE], [self.MADE], "pets")
        self.check([("rows_by", "byage", (7,), (90,)), self.MINE], [self.MADE], None)

    def test_rows_by_where_a_row_lay_or_lies(self):
        moved = ("put", "pets", (2, "Bo", 70))
        self.check([("rows_by", "byage", (5,), (6,)), self.MINE], [moved], "pets")
        self.check([("rows_by", "byage", (70,), (71,)), self.MINE], [moved], "pets")
        self.check([("rows_by", "byage", (6,), (70,)), self.MINE], [moved], None)

    def test_each_commit_since_counts(self):
        base = base_with(*pets(*ROWS))
        work = base.begin()
        work.rows("pets", (2,), (3,))
        committed(base, self.CHANGE)
        committed(base, ("put", "pets", ROWS[1]))
        self.assertEqual(told(work.finish), bad("Clash", table="pets"))
        early = base.begin()
        committed(base, self.MADE)
        late = base.begin()
        early.get("pets", (4,))
        late.get("pets", (4,))
        committed(base, self.ELSEWHERE)
        self.assertEqual(late.finish(), 4)
        self.assertEqual(told(early.finish), bad("Clash", table="pets"))

    def test_works_that_are_left_or_clash_do_not_count(self):
        base = base_with(*pets(*ROWS))
        work, left, clashing = base.begin(), base.begin(), base.begin()
        work.get("pets", (2,))
        do(left, self.CHANGE)
        left.leave()
        do(clashing, ("get", "pets", (50,)), self.GONE)
        committed(base, self.ELSEWHERE)
        self.assertEqual(told(clashing.finish), bad("Clash", table="pets"))
        self.assertEqual(work.finish(), 1)

    def test_the_whole_catalogue(self):
        for look in ("schemas", "indexes", "guards"):
            for others, name in [
                ([("make", ("a", (("k", "truth"),), 1))], "a"), ([("make_index", ("i", "vets", ("id",)))], "i"),
                ([("make_guard", ("h", "vets", ("id",), None))], "h"), ([("remove", "g")], "g"), ([("remove", "byage")], "byage"),
                ([("remove", "vets")], "vets"), ([("remove", "pets")], "byage"), ([self.CHANGE, self.GONE, self.MADE], None),
            ]:
                self.check([(look,), self.MINE], others, name)

    def test_names_that_are_used(self):
        new = ("new", (("id", "number"),), 1)
        for mine, others, name in [
            ([("make", new)], [("make", new)], "new"),
            ([("make", new)], [("make_guard", ("new", "pets", ("id",), None))], "new"),
            ([("make_index", ("i", "pets", ("name",)))], [("make_index", ("i", "vets", ("id",)))], "i"),
            ([("make_index", ("i", "pets", ("name",)))], [("make_index", ("j", "pets", ("name",)))], None),
            ([("make_index", ("i", "vets", ("id",)))], [("remove", "vets")], "vets"),
            ([("make_index", ("i", "pets", ("name",)))], [("make", ("i", (("k", "truth"),), 1))], "i"),
            ([("make_guard", ("h", "pets", ("age",), "vets"))], [("make_guard", ("h", "vets", ("id",), None))], "h"),
            ([("make_guard", ("h", "vets", ("id",), None))], [("remove", "vets")], "vets"),
            ([("make_guard", ("h", "pets", ("age",), "vets"))], [("remove", "vets")], "vets"),
            ([("make_guard", ("h", "vets", ("id",), "pets"))], [("remove", "pets")], "pets"),
            ([("make_guard", ("h", "vets", ("id",), None))], [("remove", "pets")], None),
            ([("remove", "vets")], [("remove", "vets")], "vets"),
            ([("remove", "byage")], [("remove", "pets")], "byage"),
            ([("remove", "g")], [("remove", "pets")], "g"),
            ([("remove", "vets")], [("remove", "pets")], None),
            ([("remove", "pets")], [("remove", "byage")], None),
            ([("remove", "pets")], [self.CHANGE], None),
            ([("remove", "pets")], [("make_index", ("i", "pets", ("name",)))], None),
            ([("put", "vets", (5,))], [("remove", "vets")], "vets"),
            ([("put", "pets", (5, "", 5))], [("remove", "byage")], None),
            ([("put", "pets", (5, "", 5))], [("make_index", ("i", "pets", ("name",)))], None),
            ([("put", "pets", (5, "", 5))], [("remove", "g")], None),
            ([("rows_by", "byage", None, None)], [("remove", "byage")], "byage"),
            ([("rows_by", "byage", None, None)], [("remove", "pets")], "byage"),
            ([("rows", "pets", (50,), None)], [("remove", "pets")], "pets"),
            ([("get", "vets", (5,))], [("remove", "vets"), ("make", KINDS)], "vets"),
            ([("get", "vets", (5,))], [("remove", "vets"), ("make", ("vets", (("id", "text"),), 1)), ("put", "vets", ("5",))], "vets"),
        ]:
            self.check(mine, others, name)

    def test_a_name_that_was_not_there(self):
        base = base_with(*pets(*ROWS))
        for word, arguments in [("get", ((1,),)), ("put", ((1,),)), ("drop", ((1,),)), ("rows", (None, None)), ("rows_by", (None, None)), ("remove", ())]:
            work = base.begin()
            self.assertEqual(told(getattr(work, word), "vets", *arguments), bad("NoTable", name="vets"))
            committed(base, ("make", KINDS))
            self.assertEqual(told(work.finish), bad("Clash", table="vets"))
            committed(base, ("remove", "vets"))

    def test_the_first_name_by_the_alphabet(self):
        self.check([("get", "pets", (2,)), ("get", "vets", (1,))], [self.CHANGE, ("drop", "vets", (1,))], "pets")
        self.check([("get", "vets", (1,)), ("rows_by", "byage", None, None)], [("drop", "vets", (1,)), self.CHANGE], "pets")
        self.check([("get", "vets", (1,)), ("schemas",)], [("drop", "vets", (1,)), ("make", ("zoo", (("k", "truth"),), 1))], "vets")
        self.check([("get", "vets", (1,)), ("schemas",)], [("drop", "vets", (1,)), ("make", ("a", (("k", "truth"),), 1))], "a")
        base = base_with(*pets(*ROWS), ("make", KINDS))
        work = base.begin()
        do(work, ("get", "pets", (2,)), ("rows", "vets", None, None))
        committed(base, ("put", "vets", (8,)))
        committed(base, self.CHANGE)
        self.assertEqual(told(work.finish), bad("Clash", table="pets"))

    def test_a_table_that_was_made_anew(self):
        """What lay where a work has looked is told by the name of the table."""
        again = [("remove", "pets"), ("make", PETS), ("make_index", ("j", "pets", ("age",)))]
        for look in [("get", "pets", (2,)), ("drop", "pets", (2,)), ("rows", "pets", (2,), (3,)), ("rows_by", "j", (5,), (6,))]:
            self.check([*again, look], [self.CHANGE], "pets")
        for look in [("get", "pets", (3,)), ("rows", "pets", (3,), None), ("rows_by", "j", (6,), None)]:
            self.check([*again, look], [self.CHANGE], None)
        self.check([("get", "pets", (2,)), *again], [self.CHANGE], "pets")

    def test_a_table_of_other_columns(self):
        again = [("remove", "pets"), ("make", ("pets", (("sex", "truth"), ("age", "text")), 1)), ("make_index", ("j", "pets", ("age",)))]
        for look, name in [
            (("rows", "pets", None, None), "pets"), (("rows", "pets", (True,), ()), None), (("get", "pets", (True,)), None), (("drop", "pets", (False,)), None),
            (("rows_by", "j", None, None), None), (("rows_by", "j", ("5",), None), None),
        ]:
            self.check([*again, look], [self.CHANGE], name)
        again[1:] = [("make", ("pets", (("k", "truth"), ("sex", "number")), 1)), ("make_index", ("j", "pets", ("sex",)))]
        self.check([*again, ("rows_by", "j", None, None)], [self.CHANGE], None)


class Guards(unittest.TestCase):
    def test_broken_and_going_on(self):
        base = base_with(*pets(*ROWS), ("make_guard", ONE_NAME))
        work = base.begin()
        work.put("pets", (4, "Bo", 1))
        for _ in range(2):
            self.assertEqual(told(work.finish), bad("Broken", name="onename"))
            self.assertEqual((base.commit, base.begin().rows("pets", None, None)), (1, list(ROWS)))
        self.assertEqual(work.get("pets", (4,)), (4, "Bo", 1))
        work.put("pets", (2, "Bob", 1))
        self.assertEqual(work.finish(), 2)
        self.assertEqual(told(work.finish), bad("Ended"))

    def test_the_first_name(self):
        base = base_with(*pets(*ROWS))
        work = base.begin()
        do(work, ("make_guard", ("b", "pets", ("age",), None)), ("make_guard", ("c", "pets", ("id",), None)), ("make_guard", ("a", "pets", ("age", "id"), None)))
        self.assertEqual(told(work.finish), bad("Broken", name="b"))
        do(work, ("make", KINDS), ("make_guard", ("aa", "pets", ("age",), "vets")))
        self.assertEqual(told(work.finish), bad("Broken", name="aa"))
        do(work, *[("put", "vets", (age,)) for age in (5, 9, 2)])
        self.assertEqual(told(work.finish), bad("Broken", name="b"))
        work.remove("b")
        self.assertEqual(work.finish(), 2)

    def test_parents_and_children(self):
        base = base_with(*pets(*ROWS), ("make", KINDS), *[("put", "vets", (age,)) for age in (2, 5, 9, 10)],
                         ("make_guard", ("has", "pets", ("age",), "vets")))
        self.assertEqual(base.commit, 1)
        for calls, name in [
            ([("drop", "vets", (5,))], "has"), ([("drop", "vets", (10,))], None), ([("put", "pets", (1, "", 6))], "has"),
            ([("put", "pets", (1, "", 6)), ("put", "vets", (6,))], None), ([("remove", "vets")], None),
            ([("drop", "vets", (9,)), ("drop", "pets", (3,))], None), ([("remove", "has"), ("drop", "vets", (5,))], None),
            ([("drop", "vets", (5,)), ("put", "vets", (5,))], None),
        ]:
            again = Base(SHAPE, base.cut((8,) * base.waiting))
            work = again.begin()
            do(work, *calls)
            self.assertEqual(told(work.finish), 2 if name is None and calls[-1] != ("put", "vets", (5,)) else bad("Broken", name=name) if name else 1)

    def test_guards_meet_what_others_have_put(self):
        base = base_with(*pets(*ROWS), ("make", KINDS), *[("put", "vets", (age,)) for age in (2, 5, 9)])
        guarding, putting = base.begin(), base.begin()
        guarding.make_guard(("has", "pets", ("age",), "vets"))
        putting.put("pets", (8, "", 77))
        self.assertEqual(putting.finish(), 2)
        self.assertEqual(told(guarding.finish), bad("Broken", name="has"))
        committed(base, ("drop", "pets", (8,)))
        late = base.begin()
        late.put("pets", (8, "", 77))
        self.assertEqual(guarding.finish(), 4)
        self.assertEqual(told(late.finish), bad("Broken", name="has"))
        late.put("pets", (8, "", 9))
        self.assertEqual(late.finish(), 5)

    def test_two_that_are_right_alone(self):
        base = base_with(*pets(), ("make_guard", ONE_NAME))
        one, other = base.begin(), base.begin()
        one.put("pets", (1, "Bo", 1))
        other.put("pets", (2, "Bo", 1))
        self.assertEqual(one.finish(), 2)
        self.assertEqual(told(other.finish), bad("Broken", name="onename"))

    def test_clash_comes_ahead_of_broken(self):
        base = base_with(*pets(*ROWS), ("make_guard", ONE_NAME))
        work = base.begin()
        do(work, ("put", "pets", (4, "Bo", 1)), ("get", "pets", (1,)))
        committed(base, ("drop", "pets", (1,)))
        self.assertEqual(told(work.finish), bad("Clash", table="pets"))

    def test_broken_comes_ahead_of_no_room_and_too_wide(self):
        base = base_with(("make", KINDS), ("make", ("zoo", (("id", "number"), ("x", "text")), 1)), ("make_guard", ("h", "zoo", ("id",), "vets")),
                         shape=(6, 3))
        work = base.begin()
        for at in range(40):
            told(work.put, "zoo", (at, "abcdefghij"))
        self.assertEqual(told(work.finish), bad("Broken", name="h"))
        work.remove("h")
        self.assertIn(told(work.finish), [bad("TooWide"), bad("NoRoom")])


class Rooms(unittest.TestCase):
    def test_no_room_and_going_on(self):
        base = Base((2, 8))
        one, other = base.begin(), base.begin()
        one.make(KINDS)
        other.make(PETS)
        self.assertEqual(one.finish(), 1)
        for _ in range(2):
            self.assertEqual(told(other.finish), bad("NoRoom"))
            self.assertEqual((base.commit, base.begin().schemas()), (1, [KINDS]))
        self.assertEqual(told(other.make, ("zoo", (("k", "truth"),), 1)), bad("NoRoom"))
        self.assertEqual(other.schemas(), [PETS])
        other.remove("pets")
        self.assertEqual(told(other.finish), bad("Clash", table="vets"))

    def test_no_room_until_there_is_less_to_put_in(self):
        base = Base((2, 8))
        one, other = base.begin(), base.begin()
        one.make(KINDS)
        other.make(PETS)
        one.finish()
        self.assertEqual(told(other.finish), bad("NoRoom"))
        other.remove("pets")
        self.assertEqual((other.finish(), base.begin().schemas()), (1, [KINDS]))

    def test_no_room_until_another_leaves_some(self):
        base = Base((2, 8))
        one, other = base.begin(), base.begin()
        one.make(KINDS)
        other.make(PETS)
        one.finish()
        self.assertEqual(told(other.finish), bad("NoRoom"))
        committed(base, ("remove", "vets"))
        self.assertEqual((other.finish(), base.begin().schemas()), (3, [PETS]))

    def test_rows_that_have_no_room(self):
        base = base_with(("make", KINDS), ("make", PETS), shape=(11, 16))
        one, other = base.begin(), base.begin()
        for at in range(40):
            one.put("vets", (at,))
            other.put("pets", (at, "abcde", at))
        one.finish()
        self.assertEqual(told(other.finish), bad("NoRoom"))
        for at in range(1, 40):
            other.drop("pets", (at,))
        self.assertEqual((other.finish(), base.begin().rows("pets", None, None)), (3, [(0, "abcde", 0)]))

    def test_too_wide_and_going_on(self):
        base = base_with(("make", PETS), shape=(32, 3))
        work = base.begin()
        for at in range(60):
            work.put("pets", (at, "abcdefghij", at))
        for _ in range(2):
            self.assertEqual(told(work.finish), bad("TooWide"))
            self.assertEqual((base.commit, base.begin().rows("pets", None, None)), (1, []))
        for at in range(2, 60):
            work.drop("pets", (at,))
        self.assertEqual((work.finish(), len(base.begin().rows("pets", None, None))), (2, 2))

    def test_no_room_comes_ahead_of_too_wide(self):
        base = base_with(("make", PETS), shape=(9, 3))
        committed(base, ("make", KINDS))
        work = base.begin()
        for at in range(20):
            work.put("pets", (at, "abcdefghij", at))
        self.assertEqual(told(work.finish), bad("TooWide"))
        for at in range(40):
            committed(base, ("put", "vets", (at,)))
        self.assertEqual(told(work.finish), bad("NoRoom"))
        self.assertEqual(base.begin().rows("pets", None, None), [])

    def test_a_ring_that_is_full_is_answered_by_a_check(self):
        base = base_with(("make", PETS), shape=(8, 3))
        self.assertEqual((base.store.free, base.sure), (1, 0))
        self.assertEqual(committed(base, ("put", "pets", (1, "", 1))), 2)
        self.assertEqual((base.store.free, base.sure), (0, 0))
        self.assertEqual(committed(base, ("put", "pets", (2, "", 1))), 3)
        self.assertEqual((base.store.free, base.sure), (2, 2))
        for at in range(20):
            self.assertEqual(committed(base, ("put", "pets", (3, "", at))), 4 + at)
            self.assertEqual(base.begin().rows("pets", None, None), [(1, "", 1), (2, "", 1), (3, "", at)])

    def test_a_work_that_was_done_alone_has_room(self):
        for seed in range(12):
            chosen = random.Random(700 + seed)
            base = Base((chosen.randint(6, 12), 64))
            work = base.begin()
            do(work, *pets())
            for _ in range(80):
                if chosen.randrange(3):
                    told(work.put, "pets", (chosen.randrange(60), chosen.choice("abc") * chosen.randint(0, 10), chosen.randrange(9)))
                else:
                    told(work.drop, "pets", (chosen.randrange(60),))
            held = content(work)
            self.assertEqual(work.finish(), 1)
            self.assertEqual(content(base.begin()), held)


class FewestCalls(unittest.TestCase):
    """What a work comes to, done by calls that put nothing that is not there in the end."""

    def test_any_calls(self):
        words = ["put"] * 8 + ["drop"] * 4 + ["make", "make_index", "make_guard", "remove"]
        saved = 0
        for seed in range(80):
            chosen = random.Random(4050 + seed)
            serial = Serial()
            start = [any_call(chosen, words + ["make"] * 3 + ["make_index"] * 3) for _ in range(chosen.choice((0, 20, 40)))]
            serial.add(serial.run(0, start)[1], [])
            before, tables, again = (serial.tables_behind(1) for _ in range(3))
            ledger = Ledger(before)
            calls = []
            for call in [any_call(chosen, words) for _ in range(chosen.randint(0, 60))]:
                if told(getattr(tables, call[0]), *call[1:]) in (None, True, False):
                    calls.append(({"make_index": "make index", "make_guard": "make guard"}.get(call[0], call[0]), *call[1:]))
                    ledger.take_in(calls[-1])
            self.assertEqual(ledger.first_broken(), first_broken(content(tables)))
            fewest = ledger.fewest_calls()
            for call in fewest:
                do_again(again, call)
            self.assertEqual(content(again), content(tables))
            # No row is put twice, and none that is dropped or taken away with its table.
            puts = [call for call in fewest if call[0] == "put"]
            self.assertTrue(all(tables.get(table, row[:len(key_of(tables, table))]) == row for _, table, row in puts))
            self.assertEqual(len(set(puts)), len(puts))
            saved += len(calls) - len(fewest)
        self.assertGreater(saved, 300)


def key_of(tables, table):
    """The columns of the key of a table."""
    name, columns, many = tables.schema_of(table)
    return columns[:many]


class Over(unittest.TestCase):
    CALLS = [
        ("make", KINDS), ("make_index", BY_AGE), ("make_guard", ONE_NAME), ("remove", "pets"), ("schemas",), ("indexes",), ("guards",),
        ("put", "pets", ROWS[0]), ("get", "pets", (1,)), ("drop", "pets", (1,)), ("rows", "pets", None, None), ("rows_by", "byage", None, None),
        ("finish",), ("leave",),
    ]

    def over(self):
        """Works that are over, each in its way."""
        base = base_with(*pets(*ROWS))
        works = [base.begin() for _ in range(5)]
        works[0].leave()
        do(works[1], ("get", "pets", (1,)), ("put", "pets", (1, "", 1)))
        works[1].finish()
        works[2].finish()
        works[3].put("pets", (1, "", 1))
        works[3].finish()
        works[4].get("pets", (1,))
        self.assertEqual(told(works[4].finish), bad("Clash", table="pets"))
        return base, works

    def test_each_call_is_refused(self):
        base, works = self.over()
        before = (base.state, base.commit)
        for work in works:
            for word, *arguments in self.CALLS:
                self.assertEqual(told(getattr(work, word), *arguments), bad("Ended"), word)
        self.assertEqual((base.state, base.commit), before)

    def test_ended_comes_ahead_of_wrong_values(self):
        _, works = self.over()
        for work in works:
            for word, *arguments in self.CALLS:
                for value in (None, [], {"a": 1}, 5, "no"):
                    self.assertEqual(told(getattr(work, word), *[value for _ in arguments]), bad("Ended"))


class WrongValues(unittest.TestCase):
    def test_errors_are_those_of_tables(self):
        base = base_with(*pets(*ROWS), ("make_guard", ONE_NAME))
        work = base.begin()
        tables = base.as_of(1)
        for word, many in [("make", 1), ("make_index", 1), ("make_guard", 1), ("remove", 1), ("put", 2), ("get", 2), ("drop", 2), ("rows", 3), ("rows_by", 3)]:
            for value in [*ANYTHING, *BAD_NAMES, "pets", "byage", "onename", "no"]:
                if word == "remove" and value in ("pets", "byage", "onename"):
                    continue
                if many == 1:
                    self.assertEqual(told(getattr(work, word), value), told(getattr(tables, word), value))
                for first in ("pets", "byage", "onename", "no", None, ["pets"], value):
                    if many > 1:
                        arguments = [first, *[value] * (many - 1)]
                        self.assertEqual(told(getattr(work, word), *arguments), told(getattr(tables, word), *arguments))
        self.assertEqual(content(work), content(tables))

    def test_bases(self):
        for shape in [*ANYTHING, (0, 2), (65, 2), (1, 1), (1, 65), (2, 2, 2), [2, 2], (True, 2)]:
            if shape == (1, 2):
                continue
            for image in (None, 5, blank_disk((2, 2))):
                self.assertEqual(told(Base, shape, image), bad("BadShape"), shape)
        for image in [value for value in ANYTHING if value is not None]:
            self.assertEqual(told(Base, (1, 2), image), bad("BadImage", index=None))
        self.assertEqual(told(Base, (1, 2), blank_disk((1, 2))[:4] + (5,)), bad("BadImage", index=4))
        harmed = list(blank_disk((1, 2)))
        harmed[2] = (1,) * 128
        self.assertEqual(told(Base, (1, 2), tuple(harmed)), bad("Harmed", page=0))

    def test_commits_and_fates(self):
        base = base_with(*pets(*ROWS))
        for commit in [value for value in ANYTHING if value not in (0, 1) or isinstance(value, bool)] + [2, -1]:
            self.assertEqual(told(base.as_of, commit), bad("BadCommit"))
        many = base.waiting
        for fates in [*ANYTHING, (8,) * (many - 1), (8,) * (many + 1), [8] * many, (9,) * many, (-1,) * many, (True,) * many, (None,) * many]:
            self.assertEqual(told(base.cut, fates), bad("BadCut"))

    def test_too_many_changes_no_tables(self):
        base = base_with(*pets(*ROWS))
        base.store.life.last = 2 ** 32 - 1
        work = base.begin()
        work.put("pets", (1, "", 1))
        self.assertEqual(told(work.finish), bad("TooMany", most=2 ** 32 - 1))
        self.assertEqual(work.get("pets", (1,)), (1, "", 1))
        self.assertEqual(base.begin().get("pets", (1,)), ROWS[0])


class AsOf(unittest.TestCase):
    def test_each_commit_that_is_kept(self):
        base = Base((16, 12))
        held = [content(base.begin())]
        chosen = random.Random(31)
        committed(base, *pets())
        held.append(content(base.begin()))
        for at in range(40):
            committed(base, ("put", "pets", (chosen.randrange(8), chosen.choice("ab"), at)))
            held.append(content(base.begin()))
            oldest = base.store.oldest
            for commit in range(oldest, base.commit + 1):
                self.assertEqual(content(base.as_of(commit)), held[commit])
            for commit in (oldest - 1, base.commit + 1):
                self.assertEqual(told(base.as_of, commit), bad("BadCommit"))
            if at == 20:
                base.check()
                self.assertEqual(told(base.as_of, base.commit - 1), bad("BadCommit"))
                base = Base((16, 12), base.cut(()))
                self.assertEqual(content(base.as_of(base.commit)), held[base.commit])

    def test_reading_changes_nothing(self):
        base = base_with(*pets(*ROWS))
        state = base.state
        tables = base.as_of(1)
        told(tables.put, "pets", (1, "x", 1))
        told(tables.remove, "pets")
        self.assertEqual((base.state, content(base.as_of(1))), (state, content(base.begin())))


SCHEMAS = [
    ("a", (("k", "number"), ("x", "number")), 1), ("b", (("k", "truth"), ("j", "number"), ("x", "text")), 2), ("c", (("k", "number"), ("x", "truth")), 1),
]
INDEXES = [("i", "a", ("x",)), ("j", "b", ("x", "k")), ("l", "b", ("j",)), ("m", "c", ("x",))]
GUARDS = [("g", "a", ("x",), None), ("h", "a", ("x",), "c"), ("n", "b", ("j",), "c"), ("o", "b", ("x", "j"), None)]


def any_value(chosen, kind):
    if kind == "number":
        return chosen.choice((0, 1, 2, 3, 4, 5, 6))
    return chosen.choice(("", "a", "b")) if kind == "text" else chosen.choice((False, True))


def any_bound(chosen, kinds):
    if chosen.randrange(4) == 0:
        return None
    return tuple(any_value(chosen, kind) for kind in kinds[:chosen.randint(0, len(kinds))])


def any_call(chosen, words):
    """A call of any kind, some of which are refused."""
    word = chosen.choice(words)
    schema = chosen.choice(SCHEMAS)
    kinds = [kind for _, kind in schema[1]]
    if word == "make":
        return (word, schema)
    if word == "make_index":
        return (word, chosen.choice(INDEXES))
    if word == "make_guard":
        return (word, chosen.choice(GUARDS))
    if word == "remove":
        return (word, chosen.choice(["a", "b", "c"] + [one[0] for one in INDEXES + GUARDS] * 2))
    if word == "put":
        return (word, schema[0], tuple(any_value(chosen, kind) for kind in kinds))
    if word in ("get", "drop"):
        return (word, schema[0], tuple(any_value(chosen, kind) for kind in kinds[:schema[2]]))
    if word == "rows":
        return (word, schema[0], any_bound(chosen, kinds[:schema[2]]), any_bound(chosen, kinds[:schema[2]]))
    if word == "rows_by":
        index = chosen.choice(INDEXES)
        kinds = [dict(one[1]) for one in SCHEMAS if one[0] == index[1]][0]
        kinds = [kinds[name] for name in index[2]]
        return (word, index[0], any_bound(chosen, kinds), any_bound(chosen, kinds))
    return (word,)


ALL_WORDS = ["put"] * 12 + ["get"] * 5 + ["drop"] * 4 + ["rows"] * 3 + ["rows_by"] * 4 + ["schemas", "indexes", "guards", "make", "make_index", "make_guard", "remove"]
ROW_WORDS = ["put"] * 6 + ["get"] * 3 + ["drop"] * 2 + ["rows", "rows_by", "rows_by"]


class SideBySide(unittest.TestCase):
    """Up to four works at once, compared with the same works one behind another by their commits."""

    def setUp(self):
        self.seen = {}

    def count(self, word):
        self.seen[word] = self.seen.get(word, 0) + 1

    def call(self, work, shadow, call):
        names = [] if len(call) == 1 else shadow.names_of(call[1][0]) if isinstance(call[1], tuple) else shadow.names_of(call[1])
        if call[0] in ("make_index", "make_guard"):
            names = [name for name in (call[1][0], call[1][1], *call[1][3:]) if name is not None]
        answer = told(getattr(work, call[0]), *call[1:])
        if answer == bad("NoRoom"):
            self.count("no room for a call")
            shadow.used.update(names)
        else:
            shadow.note(call, answer, names)

    def finish(self, base, serial, work, shadow):
        """Whether a work is over by its finish."""
        clash = shadow.clash()
        commit, state = base.commit, base.state
        answer = told(work.finish)
        if clash is not None:
            self.assertEqual(answer, bad("Clash", table=clash))
            self.assertEqual((base.commit, base.state), (commit, state))
            self.count("clash")
            return True
        calls = [call for call, _ in shadow.calls]
        behind = serial.last if shadow.changes else shadow.begun
        answers, tables, names = serial.run(behind, calls)
        self.assertEqual(repr(answers), repr([one for _, one in shadow.calls]))
        broken = first_broken(content(tables)) if shadow.changes else None
        if broken is not None:
            self.assertEqual(answer, bad("Broken", name=broken))
            self.assertEqual((base.commit, base.state), (commit, state))
            self.count("broken")
            return False
        if not shadow.changes:
            self.assertEqual((answer, base.commit), (shadow.begun, commit))
            self.count("reading")
            return True
        if answer in (bad("NoRoom"), bad("TooWide")):
            self.assertEqual((base.commit, base.state), (commit, state))
            self.count(answer[0])
            return False
        self.assertEqual(answer, base.commit)
        if base.commit == commit:
            self.assertEqual(content(tables), content(serial.tables_behind(commit)))
            self.count("no page")
        else:
            self.assertEqual(base.commit, commit + 1)
            serial.add(tables, names)
            self.count("commit")
        self.assertEqual(content(base.begin()), content(tables))
        return True

    def run_works(self, chosen, words, rounds, start, shape=(64, 64)):
        base, serial = Base(shape), Serial()
        if start:
            for call in [*[("make", one) for one in SCHEMAS], *[("make_index", one) for one in INDEXES]]:
                committed(base, call)
                serial.add(*serial.run(serial.last, [call])[1:])
        works = []
        for _ in range(rounds):
            if len(works) < 4 and chosen.randrange(6) == 0:
                works.append((base.begin(), Shadow(serial)))
            if not works:
                continue
            pair = chosen.choice(works)
            lot = chosen.randrange(12)
            if lot == 0:
                if self.finish(base, serial, *pair):
                    works.remove(pair)
                    self.assertEqual(told(pair[0].schemas), bad("Ended"))
            elif lot == 1 and chosen.randrange(4) == 0:
                pair[0].leave()
                works.remove(pair)
            else:
                self.call(*pair, any_call(chosen, words))
        return base

    def test_any_calls(self):
        for seed in range(30):
            self.run_works(random.Random(4000 + seed), ALL_WORDS, 150, seed % 2 == 0)
        for word in ("clash", "broken", "reading", "no page", "commit"):
            self.assertGreater(self.seen.get(word, 0), 3, word)

    def test_calls_of_rows(self):
        for seed in range(20):
            self.run_works(random.Random(4100 + seed), ROW_WORDS, 200, True)
        self.assertGreater(self.seen["clash"], 20)
        self.assertGreater(self.seen["commit"], 20)

    def test_few_pages_and_small_rings(self):
        making = ["make"] * 4 + ["make_index"] * 2 + ["put"] * 3 + ["drop", "remove"]
        for seed in range(60):
            chosen = random.Random(4150 + seed)
            if seed % 2:
                self.run_works(chosen, making, 120, False, (chosen.randint(2, 5), chosen.randint(2, 8)))
            else:
                self.run_works(chosen, ROW_WORDS, 120, True, (chosen.randint(9, 14), chosen.randint(3, 5)))
        for word in ("no room for a call", "NoRoom", "TooWide", "commit"):
            self.assertGreater(self.seen.get(word, 0), 3, (word, self.seen))


class BehindCuts(unittest.TestCase):
    def any_fates(self, chosen, many):
        lot = chosen.randrange(5)
        if lot < 2:
            return (8 * lot,) * many
        if lot == 2:
            return tuple(8 if at < many // 2 else 0 for at in range(many))
        return tuple(chosen.choice((0, 8, 8, 8, chosen.randrange(9))) for _ in range(many))

    def work_once(self, chosen, base):
        works = [base.begin() for _ in range(chosen.randint(1, 3))]
        for _ in range(chosen.randint(0, 12)):
            told(*(lambda call, work: (getattr(work, call[0]), *call[1:]))(any_call(chosen, ALL_WORDS), chosen.choice(works)))
        if chosen.randrange(3):
            told(works[0].finish)

    def live(self, chosen, base, held):
        """Work on a base; held gets what its tables hold behind each commit."""
        for _ in range(chosen.randint(2, 12)):
            lot = chosen.randrange(10)
            if lot == 0:
                base.sync()
            elif lot == 1:
                base.check()
            else:
                before = base.commit
                self.work_once(chosen, base)
                self.assertLessEqual(base.commit, before + 1)
                held[base.commit] = content(base.begin())
            oldest = base.store.oldest
            for commit in (oldest, chosen.randint(oldest, base.commit)):
                self.assertEqual(content(base.as_of(commit)), held[commit])

    def test_what_comes_back(self):
        lost = 0
        for seed in range(25):
            chosen = random.Random(4200 + seed)
            shape = (chosen.randint(10, 24), chosen.choice((5, 8, 20, 64)))
            base = Base(shape)
            held = {0: content(base.begin())}
            for _ in range(5):
                self.live(chosen, base, held)
                sure, last = base.sure, base.commit
                fates = self.any_fates(chosen, base.waiting)
                image = base.cut(fates)
                self.assertEqual((base.sure, base.commit), (sure, last))
                later = Base(shape, image)
                self.assertTrue(sure <= later.commit <= last)
                self.assertEqual(content(later.begin()), held[later.commit])
                self.assertIsNone(first_broken(held[later.commit]))
                lost += last - later.commit
                held = {commit: held[commit] for commit in held if commit <= later.commit}
                base = later
        self.assertGreater(lost, 20)

    def test_every_commit_from_sure_to_the_last_can_come_back(self):
        base = base_with(("make", PETS), shape=(8, 32))
        held = {0: [], 1: [PETS]}
        base.sync()
        for at in range(5):
            committed(base, ("put", "pets", (at, "", at)))
        self.assertEqual((base.sure, base.commit, base.waiting), (1, 6, 5))
        found = {}
        for first in range(6):
            for fate in (0, 3, 7):
                fates = tuple(8 if at < first else fate if at == first else 8 for at in range(5))
                later = Base((8, 32), base.cut(fates))
                found[later.commit] = later.begin().rows("pets", None, None)
        self.assertEqual(found, {1 + many: [(at, "", at) for at in range(many)] for many in range(6)})
        self.assertEqual(held[1], later.begin().schemas())

    def test_nothing_that_was_not_committed(self):
        base = base_with(*pets(*ROWS))
        work = base.begin()
        do(work, ("remove", "pets"), ("make", KINDS))
        later = Base(SHAPE, base.cut((8,) * base.waiting))
        self.assertEqual(content(later.begin()), content(base.begin()))


class Names(unittest.TestCase):
    def test_errors_are_known(self):
        self.assertTrue(all(issubclass(one, CutError) for one in CutError.__subclasses__()))
        self.assertIn("Clash", ERRORS)


if __name__ == "__main__":
    unittest.main()
