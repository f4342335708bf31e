import unittest

from cutledger.blocks import block_of, is_never, label_of, stamps_of, torn
from cutledger.checksums import check_of
from helpers import ANYTHING, NEVER, NO_INTEGERS, NO_TUPLES, bad, blank, head, page, part, told

MOST = 2 ** 32 - 1
CONTENT = tuple(range(100, 196))
BAD_BLOCKS = NO_TUPLES + [
    (), (0,) * 127, (0,) * 129, (0,) * 127 + (256,), (-1,) + (0,) * 127, (True,) + (0,) * 127, (0,) * 64 + (None,) + (0,) * 63,
    (0,) * 127 + ("a",), (0,) * 127 + ((),), ((0,) * 128,), ([],) * 128,
]
BAD_CONTENTS = NO_TUPLES + [(0,) * 97, (256,), (-1,), (0, True), (None,), ("a",), ((),)]
LABELS = [
    part(0, 1, 1, 1, 2, (9, 9)), part(63, 64, 5, 77, 63, CONTENT), page(3, 4, 5, (1,)), head(9, 8, 7), blank(2, 1),
    ("part", 255, 255, MOST, MOST, 65535, (255,) * 96), ("blank", 0, 0, 0, 0, 0, ()), ("head", 1, 2, 3, 4, 5, (6, 7, 8)),
]


def changed_block(block, changes):
    """A block with other bytes at some places."""
    row = list(block)
    for at, byte in changes.items():
        row[at] = byte
    return tuple(row)


def checked_block(block, changes):
    """A block with other bytes at some places, its check made right again."""
    row = changed_block(block, changes)
    check = check_of(row[:122])
    return (*row[:122], check // 256, check % 256, *row[124:])


class Examples(unittest.TestCase):
    def test_examples(self):
        block = block_of(5, ("part", 0, 1, 1, 1, 2, (9, 9)))
        self.assertEqual(
            [block[:8], label_of(block), stamps_of(block), is_never(block)],
            [(0, 0, 0, 5, 1, 0, 1, 2), ("part", 0, 1, 1, 1, 2, (9, 9)), (5, 5), False])
        self.assertEqual(
            [label_of(torn((0,) * 128, block, 7)), stamps_of(torn((0,) * 128, block, 7))], [None, (5, 0)])


class Blocks(unittest.TestCase):
    def test_byte_by_byte(self):
        block = block_of(0x01020304, ("page", 17, 34, 0x05060708, 0x090A0B0C, 0x0D0E, (81, 82, 83)))
        self.assertEqual(len(block), 128)
        self.assertEqual(block[0:4], (1, 2, 3, 4))
        self.assertEqual(block[4:8], (2, 17, 34, 3))
        self.assertEqual(block[8:12], (5, 6, 7, 8))
        self.assertEqual(block[12:16], (9, 10, 11, 12))
        self.assertEqual(block[16:18], (13, 14))
        self.assertEqual(block[18:21], (81, 82, 83))
        self.assertEqual(block[21:122], (0,) * 101)
        self.assertEqual(block[122] * 256 + block[123], check_of(block[:122]))
        self.assertEqual(block[124:128], (1, 2, 3, 4))

    def test_the_longest_content(self):
        block = block_of(1, part(0, 1, 1, 1, 0, CONTENT))
        self.assertEqual(block[7], 96)
        self.assertEqual(block[18:114], CONTENT)
        self.assertEqual(block[114:122], (0,) * 8)

    def test_codes_of_kinds(self):
        for code, kind in enumerate(("part", "page", "head", "blank"), start=1):
            self.assertEqual(block_of(1, (kind, 0, 0, 0, 0, 0, ()))[4], code)

    def test_labels_are_told_again(self):
        for label in LABELS:
            for stamp in (1, 255, 256, 65536, 2 ** 24, MOST):
                block = block_of(stamp, label)
                self.assertEqual(label_of(block), label)
                self.assertEqual(stamps_of(block), (stamp, stamp))
                self.assertIs(is_never(block), False)

    def test_edges_of_each_number(self):
        label = part(1, 2, 3, 4, 5, (6,))
        for at, most in ((1, 255), (2, 255), (3, MOST), (4, MOST), (5, 65535)):
            for value in (0, 1, most):
                right = (*label[:at], value, *label[at + 1:])
                self.assertEqual(label_of(block_of(1, right)), right)
            for value in [*NO_INTEGERS, -1, most + 1, 10 ** 30]:
                wrong = (*label[:at], value, *label[at + 1:])
                self.assertEqual(told(block_of, 1, wrong), bad("BadLabel"))

    def test_wrong_labels(self):
        label = part(1, 2, 3, 4, 5, (6,))
        for kind in [*ANYTHING, "Part", "PART", "torn", "never", "parts", " part", 1, ("part",), ["part"], {"part": 1}]:
            self.assertEqual(told(block_of, 1, (kind, *label[1:])), bad("BadLabel"))
        for content in BAD_CONTENTS:
            self.assertEqual(told(block_of, 1, (*label[:6], content)), bad("BadLabel"))
        for wrong in [*ANYTHING, label[:6], (*label, 0), list(label), (label,)]:
            self.assertEqual(told(block_of, 1, wrong), bad("BadLabel"))

    def test_wrong_stamps_come_first(self):
        for stamp in [*NO_INTEGERS, -1, 0, MOST + 1, 10 ** 30]:
            self.assertEqual(told(block_of, stamp, LABELS[0]), bad("BadNumber"))
            self.assertEqual(told(block_of, stamp, None), bad("BadNumber"))

    def test_wrong_blocks(self):
        for function in (label_of, stamps_of, is_never):
            for block in BAD_BLOCKS:
                with self.subTest(function=function.__name__, block=str(block)[:20]):
                    self.assertEqual(told(function, block), bad("BadBlock"))

    def test_never_written(self):
        self.assertIs(is_never(NEVER), True)
        self.assertIsNone(label_of(NEVER))
        self.assertEqual(stamps_of(NEVER), (0, 0))
        for at in range(128):
            self.assertIs(is_never(changed_block(NEVER, {at: 1})), False)

    def test_stamps_of_any_block(self):
        block = tuple(range(128))
        self.assertEqual(stamps_of(block), (0x00010203, 0x7C7D7E7F))
        self.assertEqual(stamps_of((255,) * 128), (MOST, MOST))


class WholeBlocks(unittest.TestCase):
    def test_one_byte_changed(self):
        for label in LABELS[:4]:
            block = block_of(0x01020304, label)
            for at in range(128):
                for byte in (block[at] ^ 1, block[at] ^ 128, 255 - block[at]):
                    self.assertIsNone(label_of(changed_block(block, {at: byte})), at)

    def test_one_byte_changed_and_the_check_made_right(self):
        block = block_of(0x01020304, part(7, 9, 1, 2, 3, (5, 6)))
        told_at = {
            5: ("part", 6, 9, 1, 2, 3, (5, 6)), 6: ("part", 7, 8, 1, 2, 3, (5, 6)), 11: ("part", 7, 9, 0, 2, 3, (5, 6)),
            15: ("part", 7, 9, 1, 3, 3, (5, 6)), 17: ("part", 7, 9, 1, 2, 2, (5, 6)), 18: ("part", 7, 9, 1, 2, 3, (4, 6)),
            19: ("part", 7, 9, 1, 2, 3, (5, 7)), 8: ("part", 7, 9, 1 + 2 ** 24, 2, 3, (5, 6)),
            12: ("part", 7, 9, 1, 2 + 2 ** 24, 3, (5, 6)), 16: ("part", 7, 9, 1, 2, 3 + 256, (5, 6)),
            9: ("part", 7, 9, 1 + 2 ** 16, 2, 3, (5, 6)), 10: ("part", 7, 9, 1 + 2 ** 8, 2, 3, (5, 6)),
            13: ("part", 7, 9, 1, 2 + 2 ** 16, 3, (5, 6)), 14: ("part", 7, 9, 1, 2 + 2 ** 8, 3, (5, 6)),
            7: ("part", 7, 9, 1, 2, 3, (5, 6, 0)),
        }
        for at in range(122):
            # Of the kind's byte, 1 becomes 0, which is no kind's.
            label = label_of(checked_block(block, {at: block[at] ^ 1}))
            self.assertEqual(label, told_at.get(at), at)

    def test_stamps_that_are_unlike_or_nought(self):
        block = block_of(7, head(1, 1, 0))
        for at in range(4):
            self.assertIsNone(label_of(checked_block(block, {at: 9})))
            self.assertIsNone(label_of(changed_block(block, {124 + at: 9})))
            self.assertEqual(label_of(checked_block(block, {at: 9, 124 + at: 9})), head(1, 1, 0))
        self.assertIsNone(label_of(checked_block(block, {3: 0, 127: 0})))

    def test_kinds(self):
        block = block_of(7, head(1, 1, 0))
        for code in range(256):
            label = label_of(checked_block(block, {4: code}))
            if 1 <= code <= 4:
                self.assertEqual(label, (("part", "page", "head", "blank")[code - 1], *head(1, 1, 0)[1:]))
            else:
                self.assertIsNone(label)

    def test_lengths(self):
        block = block_of(7, page(1, 1, 0))
        for length in range(256):
            label = label_of(checked_block(block, {7: length}))
            self.assertEqual(label, page(1, 1, 0, (0,) * length) if length <= 96 else None)

    def test_noughts_behind_the_content(self):
        block = block_of(7, page(1, 1, 0, (5,) * 10))
        for at in range(18, 122):
            label = label_of(checked_block(block, {at: 200}))
            self.assertEqual(label is None, at >= 28, at)
        full = block_of(7, page(1, 1, 0, (5,) * 96))
        for at in range(114, 122):
            self.assertIsNone(label_of(checked_block(full, {at: 1})))

    def test_a_wrong_check(self):
        block = block_of(7, page(1, 1, 0, (5,)))
        for at in (122, 123):
            for byte in range(256):
                self.assertEqual(label_of(changed_block(block, {at: byte})) is None, byte != block[at])


class TornBlocks(unittest.TestCase):
    def test_each_number_of_cells(self):
        old = tuple(range(128))
        new = tuple(range(128, 256))
        for cells in range(9):
            block = torn(old, new, cells)
            for at in range(128):
                self.assertEqual(block[at], new[at] if at // 16 < cells else old[at])
        self.assertEqual(torn(old, new, 0), old)
        self.assertEqual(torn(old, new, 8), new)

    def test_torn_blocks_are_not_whole(self):
        one = block_of(5, part(0, 1, 1, 1, 0, CONTENT))
        two = block_of(6, part(0, 1, 1, 1, 0, CONTENT))
        for cells in range(1, 8):
            self.assertIsNone(label_of(torn(one, two, cells)))
            self.assertEqual(stamps_of(torn(one, two, cells)), (6, 5))
            self.assertIs(is_never(torn(NEVER, one, cells)), False)

    def test_wrong_values_in_order(self):
        for wrong in BAD_BLOCKS:
            self.assertEqual(told(torn, wrong, NEVER, 0), bad("BadBlock"))
            self.assertEqual(told(torn, NEVER, wrong, 0), bad("BadBlock"))
            self.assertEqual(told(torn, NEVER, wrong, 9), bad("BadBlock"))
            self.assertEqual(told(torn, wrong, NEVER, None), bad("BadBlock"))
        for cells in [*NO_INTEGERS, -1, 9, 10 ** 30]:
            self.assertEqual(told(torn, NEVER, NEVER, cells), bad("BadNumber"))


if __name__ == "__main__":
    unittest.main()
