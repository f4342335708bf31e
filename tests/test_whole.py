"""Points 47 to 49 and 55 over the whole program: statements, works and cuts, on one disk and on two."""

import random
import unittest

from cutledger.answers import asked, said
from cutledger.basetexts import load, text_of
from cutledger.blocks import label_of
from cutledger.errors import CutError
from cutledger.faults import faults
from cutledger.pairs import harmed, joined, scars
from cutledger.recovery import recovered
from cutledger.vacuum import free_pages, living, tightened
from cutledger.works import Base
from helpers import bad, told
from serial import content, first_broken

START = """make parents (id number key, name text)
make kids (id number key, parent number, nick text)
make tags (kid number key, tag text key)
index byparent on kids (parent)
index bynick on kids (nick)
guard has on kids (parent) in parents
guard nicks on kids (nick)
guard tagged on tags (kid) in kids
guard names on parents (name, id)"""


def started(shape):
    base = Base(shape)
    for line in START.split("\n"):
        said(base, line)
    return base


def any_text(chosen):
    """A statement about parents, kids and tags, which may break a guard."""
    one, other, name = chosen.randrange(8), chosen.randrange(8), chosen.choice("abcdefgh")
    return chosen.choice([
        f"put parents ({one}, '{name}')", f"put parents ({one}, '{name}')", f"put kids ({one}, {other}, '{name}{one}')", f"put kids ({one}, {other}, '{name}')",
        f"put tags ({one}, '{name}')", f"drop from parents where id = {one}", f"drop from kids where parent = {one}", f"drop from tags where kid = {one}",
        f"drop from kids where id > {one} and not nick >= '{name}'", f"set kids parent = {one} where parent = {other}", f"set kids nick = '{name}' where id = {one}",
        f"set kids nick = '{name}' where id > {one}", f"set parents name = '{name}' where id < {one}", f"set kids parent = parent + 1 where id <= {one}",
        "remove nicks", "guard nicks on kids (nick)", "count from kids with parents on parent = id for parents.name", "take * from kids by nick down first 3",
    ])


def any_fates(chosen, many):
    lot = chosen.randrange(4)
    if lot == 0:
        return (8,) * many
    if lot == 1:
        return tuple(8 if at < many * 2 // 3 else 0 for at in range(many))
    return tuple(chosen.choice((0, 8, 8, 8, 8, chosen.randrange(9))) for _ in range(many))


class GuardsAtWork(unittest.TestCase):
    """Works that break parents and children, unique columns and references, and works that don't."""

    def setUp(self):
        self.base = started((40, 40))
        load_all(self.base, "put parents (1, 'a')\nput parents (2, 'b')\nput kids (10, 1, 'x')\nput kids (11, 1, 'y')\nput kids (12, 2, 'z')\nput tags (10, 't')")

    def at_once(self, texts, name):
        """What a work of some statements comes to; the base is as it was if it is refused."""
        base = Base((40, 40), self.base.cut((8,) * self.base.waiting))
        work = base.begin()
        for text in texts:
            asked(work, text)
        before = content(base.begin())
        if name is None:
            self.assertEqual(work.finish(), base.commit)
            self.assertIsNone(first_broken(content(base.begin())))
        else:
            self.assertEqual(told(work.finish), bad("Broken", name=name), texts)
            self.assertEqual(content(base.begin()), before)
        self.assertEqual(faults(base.state), [])

    def test_works(self):
        for texts, name in [
            (["put kids (13, 3, 'w')"], "has"), (["put kids (13, 2, 'w')"], None), (["put kids (13, 2, 'x')"], "nicks"), (["put kids (10, 2, 'x')"], None),
            (["put kids (13, 3, 'w')", "put parents (3, 'c')"], None), (["put kids (13, 3, 'x')"], "has"), (["drop from parents where id = 2"], "has"),
            (["drop from parents where id = 2", "drop from kids where parent = 2"], None), (["drop from kids where id = 10"], "tagged"),
            (["drop from kids where id = 10", "drop from tags"], None), (["drop from kids", "drop from parents", "drop from tags"], None),
            (["drop from kids", "drop from parents"], "tagged"), (["drop from parents"], "has"), (["set kids nick = 'x' where id = 11"], "nicks"),
            (["set kids nick = 'y' where id = 10", "set kids nick = 'x' where id = 11"], None), (["set kids parent = 2"], None), (["set kids parent = parent + 1"], "has"),
            (["remove has", "drop from parents"], None), (["remove parents"], None), (["remove kids"], None), (["guard more on kids (parent)"], "more"),
            (["guard more on kids (parent, id)"], None), (["guard a on kids (parent)", "put kids (13, 9, 'x')"], "a"), (["guard z on kids (parent)", "put kids (13, 9, 'x')"], "has"),
            (["guard more on tags (kid) in parents"], "more"), (["guard more on tags (kid) in parents", "put parents (10, 'k')"], None),
            (["put parents (1, 'b')", "put parents (2, 'a')"], None),
        ]:
            self.at_once(texts, name)

    def test_two_works_that_keep_a_guard_alone(self):
        one, other = self.base.begin(), self.base.begin()
        asked(one, "put parents (3, 'c')")
        asked(other, "put kids (13, 3, 'w')")
        self.assertEqual(told(other.finish), bad("Broken", name="has"))
        commit = one.finish()
        self.assertEqual(other.finish(), commit + 1)
        one, other = self.base.begin(), self.base.begin()
        one.drop("kids", (13,))
        one.drop("parents", (3,))
        other.put("kids", (14, 3, "v"))
        one.finish()
        self.assertEqual(told(other.finish), bad("Broken", name="has"))
        self.assertEqual(faults(self.base.state), [])


def load_all(base, text):
    work = base.begin()
    answers = load(work, text)
    work.finish()
    return answers


class Lives(unittest.TestCase):
    def live(self, chosen, base, held, most):
        """Do statements, alone and in works side by side; held gets the content behind each commit."""
        works = []
        for _ in range(chosen.randint(1, most)):
            lot = chosen.randrange(12)
            commit = base.commit
            if lot == 0:
                base.sync()
            elif lot == 1:
                base.check()
            elif lot < 4:
                works.append(base.begin())
            elif lot < 8 and works:
                work = chosen.choice(works)
                told(asked, work, any_text(chosen))
                if chosen.randrange(3) == 0:
                    told(work.finish)
            else:
                told(said, base, any_text(chosen))
            self.assertLessEqual(base.commit, commit + 1)
            if base.commit > commit:
                held[base.commit] = content(base.begin())
                self.assertIsNone(first_broken(held[base.commit]))
                self.assertEqual(faults(base.state), [])
        for work in works:
            told(work.leave)

    def come_back(self, shape, image, base, held):
        """The base upon an image, which holds what was held behind some commit from the sure one on."""
        later = Base(shape, image)
        self.assertTrue(base.sure <= later.commit <= base.commit)
        self.assertEqual(content(later.begin()), held[later.commit])
        self.assertEqual(faults(later.state), [])
        self.assertIsNone(first_broken(held[later.commit]))
        self.assertEqual(recovered(shape, image), (later.commit, later.state))
        for commit in list(held):
            if commit > later.commit:
                del held[commit]
        return later

    def run_lives(self, seed, shape, leave_image, lives=5):
        chosen = random.Random(seed)
        base = started(shape)
        held = {base.commit: content(base.begin())}
        base.check()
        lost = 0
        for _ in range(lives):
            self.live(chosen, base, held, 25)
            last = base.commit
            base = self.come_back(shape, leave_image(chosen, shape, base), base, held)
            lost += last - base.commit
        return lost

    def one_disk(self, chosen, shape, base):
        return base.cut(any_fates(chosen, base.waiting))

    def test_one_disk(self):
        lost = 0
        for seed in range(20):
            shape = random.Random(seed).choice([(24, 8), (24, 12), (40, 24), (64, 64)])
            lost += self.run_lives(9700 + seed, shape, self.one_disk)
        self.assertGreater(lost, 20)

    def two_disks(self, chosen, shape, base):
        """What two disks tell together that were cut at once, and some of whose blocks were harmed."""
        done = chosen.choice((1, 1, 3))
        images = [base.cut(tuple(chosen.choice((0, chosen.randrange(9)) + (8,) * done) for _ in range(base.waiting))) for _ in range(2)]
        alone = joined(shape, *images)
        harms = ([], [])
        for place, (block, twin) in enumerate(zip(*images)):
            # Where the disks are not alike, one of them may be all that there is of a block.
            if block == twin and label_of(block) and chosen.randrange(2):
                first = chosen.randrange(1009)
                flips = tuple(sorted(chosen.sample(range(first, first + 16), chosen.randint(1, 16))))
                disk = harms[chosen.randrange(2)]
                if len(disk) < 40:
                    disk.append((place, flips))
        marked = [harmed(shape, image, tuple(harm)) for image, harm in zip(images, harms)]
        told_together = joined(shape, *marked)
        self.assertEqual(told_together, alone)
        self.assertTrue({(disk, place) for disk in (0, 1) for place, _ in harms[disk]} <= set(scars(shape, *marked)))
        # Both disks are made alike, and harmed again before they are read.
        whole = [place for place, block in enumerate(told_together) if label_of(block)]
        halves = (tuple((place, (5, 9)) for place in whole[::2][:40]), tuple((place, (1023,)) for place in whole[1::2][:40]))
        self.assertEqual(joined(shape, *[harmed(shape, told_together, half) for half in halves]), told_together)
        return told_together

    def test_two_disks(self):
        lost = 0
        for seed in range(16):
            shape = random.Random(seed).choice([(24, 8), (24, 12), (40, 24), (64, 64)])
            lost += self.run_lives(9800 + seed, shape, self.two_disks, 4)
        self.assertGreater(lost, 5)

    def test_two_disks_keep_what_one_loses(self):
        base = started((24, 24))
        base.sync()
        before = content(base.begin())
        said(base, "put parents (1, 'a')")
        after = content(base.begin())
        many = base.waiting
        self.assertGreater(many, 0)
        one, other = base.cut((8,) * (many - 1) + (0,)), base.cut((3,) * (many - 1) + (8,))
        for image, right in [(one, before), (joined((24, 24), one, other), after)]:
            self.assertEqual(content(Base((24, 24), image).begin()), right)


class States(unittest.TestCase):
    def test_pages_of_a_base(self):
        for seed in range(6):
            chosen = random.Random(9900 + seed)
            base = started((48, 48))
            for _ in range(60):
                told(said, base, any_text(chosen))
            state = base.state
            self.assertEqual(sorted([*living(state), *free_pages(state)]), list(range(48)))
            self.assertEqual({state[number] for number in free_pages(state)} - {()}, set())
            self.assertEqual(faults(tightened(state)), [])
            text = text_of(base.begin())
            again = Base((48, 48))
            work = again.begin()
            load(work, text)
            work.finish()
            self.assertEqual(content(again.begin()), content(base.begin()))
            for commit in range(base.store.oldest, base.commit + 1):
                self.assertEqual(faults(base.store.as_of(commit)), [])

    def test_answers_of_refused_statements_change_nothing(self):
        base = started((40, 40))
        chosen = random.Random(9950)
        refused = 0
        for _ in range(300):
            before = (base.commit, base.state)
            try:
                said(base, any_text(chosen))
            except CutError:
                refused += 1
                self.assertEqual((base.commit, base.state), before)
        self.assertGreater(refused, 30)


if __name__ == "__main__":
    unittest.main()
