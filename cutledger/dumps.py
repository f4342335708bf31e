"""Texts of deeds, written and read, and the text of an image (point 18)."""

from cutledger.blocks import LONGEST_CONTENT, read_stamps
from cutledger.disks import MOST_PAGES, check_disk, kinds_with, read_labels
from cutledger.errors import BadLine, BadString
from cutledger.lives import CHECK, MOST_DEEDS, SYNC, TIDY, check_deeds
from cutledger.values import is_integer

DIGITS = "0123456789abcdef"
LONGEST_NUMBER = 2

# Deeds without a shape may write each page that some store has.
WIDEST_SHAPE = (64, 2)


def digits_of(row):
    """The digits of a row of bytes, two for each."""
    return "".join([f"{byte:02x}" for byte in row])


def line_of(deed):
    """The line of a deed."""
    if deed[0] != "write":
        return deed[0]
    return " ".join([deed[0], *[f"{number}:{digits_of(page)}" for number, page in deed[1]]])


def write_deeds(deeds):
    """The text of deeds."""
    check_deeds(WIDEST_SHAPE, deeds)
    return "\n".join([line_of(deed) for deed in deeds])


def read_number(word):
    """The number of a page that a word tells, None if it tells none."""
    if not 1 <= len(word) <= LONGEST_NUMBER or not all(sign in DIGITS[:10] for sign in word):
        return None
    number = int(word)
    return number if number < MOST_PAGES and word == str(number) else None


def read_page(word):
    """The page that a word of digits tells, None if it tells none."""
    if len(word) > 2 * LONGEST_CONTENT or len(word) & 1 or not all(sign in DIGITS for sign in word):
        return None
    values = [DIGITS.index(sign) for sign in word]
    return tuple([16 * high + low for high, low in zip(values[::2], values[1::2])])


def read_pair(word):
    """The pair of number and page that a word tells, None if it tells none."""
    first, colon, second = word.partition(":")
    number = read_number(first)
    page = read_page(second)
    return None if colon == "" or number is None or page is None else (number, page)


def read_batch(line, words):
    """The batch that the words behind a write tell; BadLine with the first word that cannot stand."""
    if not words:
        raise BadLine(line, 2)
    batch = []
    least = 0
    for at, word in enumerate(words, start=2):
        pair = read_pair(word)
        if pair is None or not is_integer(pair[0], least, MOST_PAGES - 1):
            raise BadLine(line, at)
        batch.append(pair)
        least = pair[0] + 1
    return tuple(batch)


def read_line(line, words):
    """The deed that the words of a line tell; BadLine with the first word that cannot stand."""
    if words[:1] == ["write"]:
        return ("write", read_batch(line, words[1:]))
    if tuple(words[:1]) not in (SYNC, CHECK, TIDY):
        raise BadLine(line, 1)
    if len(words) > 1:
        raise BadLine(line, 2)
    return (words[0],)


def read_deeds(text):
    """The deeds that a text tells."""
    if not isinstance(text, str):
        raise BadString()
    if text == "":
        return ()
    deeds = []
    for line, row in enumerate(text.split("\n"), start=1):
        if line > MOST_DEEDS:
            raise BadLine(line, 1)
        deeds.append(read_line(line, [word for word in row.split(" ") if word != ""]))
    return tuple(deeds)


def show_block(place, block, kind, label):
    """The line of a block of a kind, with a label or None."""
    if kind == "never":
        return f"{place} never"
    first, last = read_stamps(block)
    if kind == "torn":
        return f"{place} torn {first} {last}"
    words = [str(part) for part in (place, first, *label[:6])]
    if label[6]:
        words.append(digits_of(label[6]))
    return " ".join(words)


def show_image(shape, image):
    """A text with a line for each block."""
    check_disk(shape, image)
    labels = read_labels(image)
    words = kinds_with(image, labels)
    return "\n".join([show_block(place, block, words[place], labels[place]) for place, block in enumerate(image)])
