import random
import unittest

from cutledger.blocks import block_of, label_of, stamps_of, torn
from cutledger.cuts import cut_image
from cutledger.disks import blank_disk, kinds
from cutledger.dumps import read_deeds, show_image, write_deeds
from cutledger.lives import after, steps
from helpers import ANYTHING, CHECK, NEVER, NO_INTEGERS, SYNC, TIDY, bad, blank, head, page, part, told, with_blocks, write
from scenes import cut_often, random_deeds, random_image, random_shape
from test_disks import BAD_PAGES, BAD_SHAPES, bad_images
from test_lives import bad_deeds

SIGNS = "0123456789abcdef"


class Examples(unittest.TestCase):
    def test_examples(self):
        self.assertEqual(
            [write_deeds((("write", ((0, (1, 2)), (2, ()))), ("sync",))), read_deeds(" write  1:ff ")],
            ["write 0:0102 2:\nsync", (("write", ((1, (255,)),)),)])
        self.assertEqual(
            show_image((1, 2), after((1, 2), blank_disk((1, 2)), (("write", ((0, (9,)),)),))),
            "0 never\n1 never\n2 never\n3 1 part 0 1 1 1 0 09\n4 never")
        self.assertEqual(told(read_deeds, "sync\nwrite 2:00 1:00"), bad("BadLine", line=2, word=3))


class Written(unittest.TestCase):
    def test_each_deed(self):
        for deed, text in [
            (SYNC, "sync"), (CHECK, "check"), (TIDY, "tidy"), (write((0, ())), "write 0:"), (write((63, (0, 9, 10, 255))), "write 63:00090aff"),
            (write((9, (16,)), (10, ()), (63, (1,))), "write 9:10 10: 63:01"),
        ]:
            self.assertEqual(write_deeds((deed,)), text)
            self.assertEqual(read_deeds(text), (deed,))
            self.assertEqual(write_deeds((deed, SYNC, deed)), f"{text}\nsync\n{text}")

    def test_none(self):
        self.assertEqual(write_deeds(()), "")
        self.assertEqual(read_deeds(""), ())

    def test_each_byte(self):
        for byte in range(256):
            text = f"write 5:{SIGNS[byte // 16]}{SIGNS[byte % 16]}"
            self.assertEqual(write_deeds((write((5, (byte,))),)), text)
            self.assertEqual(read_deeds(text), (write((5, (byte,))),))

    def test_the_longest(self):
        deeds = (("write", tuple((number, (number,) * 96) for number in range(64))),) * 40
        text = write_deeds(deeds)
        self.assertEqual(text.count("\n"), 39)
        self.assertEqual(text.split("\n")[0].split(" ")[64], "63:" + "3f" * 96)
        self.assertEqual(read_deeds(text), deeds)

    def test_any_deeds_are_read_back(self):
        chosen = random.Random(101)
        for _ in range(100):
            shape = random_shape(chosen)
            deeds = random_deeds(chosen, shape, blank_disk(shape), 12)
            text = write_deeds(deeds)
            self.assertEqual(read_deeds(text), deeds)
            spaced = "\n".join(" " * chosen.randrange(3) + line.replace(" ", " " * chosen.randint(1, 4)) + " " * chosen.randrange(3)
                               for line in text.split("\n"))
            if deeds:
                self.assertEqual(read_deeds(spaced), deeds)


class WrongLines(unittest.TestCase):
    WORDS = [
        "", ":", "0", "00:", "01:", "0:0", "0:000", "0:fF", "0:FF", "0:0g", "0:-1", "0:0x", ":00", "64:", "064:", "100:", "-1:", "+1:",
        "1 :", "0::", "0:0:0", "0;00", "a:", "1.0:", "1_0:", "write", "sync", "0:00\t", "\t0:00", "0:00,1:00", "0:" + "00" * 97,
        "0:" + "0" * 191, "\u0661:00", "0:\u0661\u0661", "9999999999999999999999:", "0 :00", "0: 00",
    ]

    def check(self, text, line, word):
        self.assertEqual(told(read_deeds, text), bad("BadLine", line=line, word=word), text)

    def test_words_behind_write(self):
        for wrong in self.WORDS:
            first = 2 + (wrong == "0: 00")
            self.check(f"write {wrong}", 1, first)
            self.check(f"sync\n\n write {wrong}", 2, 1)
            self.check(f"sync\n  write   {wrong}  ", 2, first)
            if wrong:
                self.check(f"write {wrong} 5:00", 1, first)
        self.check("write 0: 1: 2:0", 1, 4)
        self.check("write 0: 1:g 2:0", 1, 3)

    def test_numbers_that_do_not_ascend(self):
        for numbers, word in [((0, 0), 3), ((1, 0), 3), ((0, 2, 1), 4), ((0, 1, 1), 4), ((63, 0), 3), ((5, 6, 7, 7, 8), 5)]:
            self.check("write " + " ".join(f"{number}:" for number in numbers), 1, word)
        self.check("write 2: 1:0", 1, 3)
        self.check("write 63: 64:", 1, 3)

    def test_other_first_words(self):
        for word in ["Sync", "syncs", "sync,", "write:", "0:00", "cut", "checktidy", "\tsync", "sync\t", "sync\r", "writ", "SYNC"]:
            self.check(word, 1, 1)
            self.check(f"check\n{word} 0:00\nsync", 2, 1)

    def test_words_behind_other_deeds(self):
        for deed in ("sync", "check", "tidy"):
            for word in ["sync", "0:00", "x", ":"]:
                self.check(f"{deed} {word}", 1, 2)
                self.check(f" {deed}   {word} {word}", 1, 2)
                self.check(f"sync\n{deed} {word}\nx", 2, 2)
            self.assertEqual(read_deeds(f"  {deed}  "), ((deed,),))

    def test_words_that_are_lacking(self):
        for text, line, word in [(" ", 1, 1), ("   ", 1, 1), ("\n", 1, 1), ("sync\n", 2, 1), ("sync\n\ncheck", 2, 1), ("\nsync", 1, 1),
                                 ("write", 1, 2), ("  write  ", 1, 2), ("sync\n ", 2, 1), ("write\nwrite 0:", 1, 2)]:
            self.check(text, line, word)

    def test_a_line_too_many(self):
        lines = ["sync"] * 40
        self.assertEqual(read_deeds("\n".join(lines)), (SYNC,) * 40)
        for more in ["sync", "write 0:", "", "x", "  ", "write"]:
            self.check("\n".join([*lines, more]), 41, 1)
            self.check("\n".join([*lines, more, "sync"]), 41, 1)
        self.check("\n".join([*lines[:39], "x", "sync"]), 40, 1)
        self.check("\n".join([*lines[:20], "sync x", *lines]), 21, 2)

    def test_the_first_line_is_told(self):
        self.check("write 1:0\nx\nsync y", 1, 2)
        self.check("sync\nsync y\nx", 2, 2)

    def test_edges_that_may_stand(self):
        self.assertEqual(read_deeds("write 0:" + "00" * 96), (write((0, (0,) * 96)),))
        self.assertEqual(read_deeds("write 62: 63:"), (write((62, ()), (63, ())),))
        self.assertEqual(read_deeds("write 9: 10:"), (write((9, ()), (10, ())),))


class Shown(unittest.TestCase):
    def model(self, image):
        lines = []
        for place, block in enumerate(image):
            label = label_of(block)
            if not any(block):
                lines.append(f"{place} never")
            elif label is None:
                lines.append("{} torn {} {}".format(place, *stamps_of(block)))
            else:
                words = [place, stamps_of(block)[0], *label[:6], *["".join(f"{byte:02x}" for byte in label[6])] * bool(label[6])]
                lines.append(" ".join(map(str, words)))
        return "\n".join(lines)

    def test_line_by_line(self):
        shape = (2, 5)
        new = block_of(2 ** 32 - 1, part(1, 2, 7, 8, 1, (0, 171)))
        image = with_blocks(shape, {
            0: (5, head(3, 4, 1)), 1: torn(NEVER, new, 3), 2: (6, page(3, 4, 0, (1, 16, 255))), 3: (7, page(3, 4, 1)),
            4: (8, part(0, 2, 1, 2, 3, (9,) * 96)), 5: new, 6: (9, blank(2 ** 32 - 1, 1)), 7: torn(block_of(1, blank(1, 1)), new, 4),
            8: (1, ("head", 255, 255, 2 ** 32 - 1, 0, 65535, (0,)))})
        self.assertEqual(show_image(shape, image).split("\n"), [
            "0 5 head 0 1 3 4 1", "1 torn 4294967295 0", "2 6 page 0 1 3 4 0 0110ff", "3 7 page 0 1 3 4 1",
            "4 8 part 0 2 1 2 3 " + "09" * 96, "5 4294967295 part 1 2 7 8 1 00ab", "6 9 blank 0 1 4294967295 1 0", "7 torn 4294967295 1",
            "8 1 head 255 255 4294967295 0 65535 00"])

    def test_a_torn_block_with_stamps_alike(self):
        whole = block_of(3, part(0, 1, 1, 1, 0, (5,)))
        harmed = (*whole[:18], 6, *whole[19:])
        self.assertEqual(show_image((1, 2), with_blocks((1, 2), {4: harmed})).split("\n")[4], "4 torn 3 3")
        spot = (0,) * 60 + (1,) + (0,) * 67
        self.assertEqual(show_image((1, 2), with_blocks((1, 2), {0: spot})).split("\n")[0], "0 torn 0 0")

    def test_any_images(self):
        chosen = random.Random(102)
        for _ in range(60):
            shape = random_shape(chosen)
            for image in [random_image(chosen, shape), cut_often(chosen, shape, 3)]:
                self.assertEqual(show_image(shape, image), self.model(image))
                words = [line.split(" ")[1] for line in show_image(shape, image).split("\n")]
                self.assertEqual([word if word in ("never", "torn") else "whole" for word in words],
                                 [kind if kind in ("never", "torn") else "whole" for kind in kinds(shape, image)])

    def test_harmed_images_are_shown(self):
        image = with_blocks((1, 2), {2: (1, ("page", 0, 1, 1, 9, 5, ()))})
        self.assertEqual(show_image((1, 2), image).split("\n")[2], "2 1 page 0 1 1 9 5")

    def test_the_greatest_disk(self):
        self.assertEqual(show_image((64, 64), blank_disk((64, 64))), "\n".join(f"{place} never" for place in range(130)))

    def test_what_a_cut_leaves(self):
        deeds = (write((0, (1,))), CHECK, write((0, (2,))), TIDY)
        count = len(steps((1, 2), blank_disk((1, 2)), deeds)) - 1
        image = cut_image((1, 2), blank_disk((1, 2)), deeds, (count, (8, 4)))
        self.assertEqual(show_image((1, 2), image).split("\n"), [
            "0 3 head 0 1 1 1 1", "1 never", "2 2 page 0 1 1 1 0 01", "3 torn 5 1", "4 4 part 0 1 1 2 0 02"])


class WrongValues(unittest.TestCase):
    def test_deeds(self):
        for deeds, index in bad_deeds((64, 2)):
            self.assertEqual(told(write_deeds, deeds), bad("BadDeeds", index=index))
        for wrong_page in BAD_PAGES:
            self.assertEqual(told(write_deeds, (SYNC, write((63, wrong_page)))), bad("BadDeeds", index=1))
        self.assertEqual(told(write_deeds, (write((64, ())),)), bad("BadDeeds", index=0))
        self.assertEqual(write_deeds((write((63, ())),)), "write 63:")

    def test_deeds_that_no_ring_has_room_for(self):
        batch = tuple((number, ()) for number in range(64))
        self.assertEqual(write_deeds((("write", batch),) * 2).count("63:"), 2)

    def test_strings(self):
        for text in [value for value in [*ANYTHING, *NO_INTEGERS] if not isinstance(value, str)] + [b"sync", ["sync"]]:
            self.assertEqual(told(read_deeds, text), bad("BadString"))

    def test_shapes_and_images(self):
        for shape in BAD_SHAPES:
            self.assertEqual(told(show_image, shape, None), bad("BadShape"))
        for image, index in bad_images((1, 2)):
            self.assertEqual(told(show_image, (1, 2), image), bad("BadImage", index=index))
        self.assertEqual(told(show_image, (3, 4), blank_disk((4, 4))), bad("BadImage", index=None))


if __name__ == "__main__":
    unittest.main()
