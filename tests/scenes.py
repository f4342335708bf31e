"""Lives, and images that cuts of them leave, chosen by a seed: the same each time."""

from cutledger.blocks import block_of
from cutledger.cuts import cut_image, waiting
from cutledger.disks import blank_disk
from cutledger.lives import steps
from cutledger.recovery import log_of


def random_page(chosen):
    return tuple(chosen.randrange(256) for _ in range(chosen.choice((0, 0, 1, 2, 5))))


def random_batch(chosen, pages, most):
    many = chosen.randint(1, min(pages, most))
    return tuple((number, random_page(chosen)) for number in sorted(chosen.sample(range(pages), many)))


def random_deeds(chosen, shape, image, most, words="wwwwsct"):
    """Deeds that can be done: writes where the ring has blocks left."""
    left = shape[1] - sum(len(row[3]) for row in log_of(shape, image))
    deeds = []
    for _ in range(chosen.randint(0, most)):
        word = chosen.choice(words)
        if word == "w" and left == 0:
            word = "c"
        if word == "w":
            batch = random_batch(chosen, shape[0], left)
            left -= len(batch)
            deeds.append(("write", batch))
        else:
            left = shape[1] if word == "c" else left
            deeds.append(({"s": "sync", "c": "check", "t": "tidy"}[word],))
    return tuple(deeds)


def random_fates(chosen, many):
    """Fates, mostly done or lost."""
    return tuple(chosen.choice((0, 8, 8, 8, chosen.randrange(9))) for _ in range(many))


def random_cut(chosen, shape, image, deeds):
    count = chosen.randint(0, len(steps(shape, image, deeds)))
    return (count, random_fates(chosen, len(waiting(shape, image, deeds, count))))


def random_shape(chosen):
    return (chosen.randint(1, 4), chosen.randint(2, 7))


def cut_often(chosen, shape, lives, words="wwwwsct"):
    """The image that some lives leave, each cut somewhere."""
    image = blank_disk(shape)
    for _ in range(lives):
        deeds = random_deeds(chosen, shape, image, 8, words)
        image = cut_image(shape, image, deeds, random_cut(chosen, shape, image, deeds))
    return image


def random_label(chosen, shape):
    kind = chosen.choice(("part", "part", "part", "page", "head", "blank"))
    return (
        kind, chosen.choice((0, 0, 0, 1, 2)), chosen.choice((0, 1, 1, 1, 2, 3, 8)), chosen.randint(0, 4), chosen.randint(0, 4),
        chosen.randrange(shape[1] + 1 if kind == "head" else shape[0] + 1), random_page(chosen))


def random_image(chosen, shape):
    """An image of any blocks, most of them nearly right."""
    image = []
    for place in range(2 + sum(shape)):
        label = random_label(chosen, shape)
        if place < 2:
            label = ("head", *label[1:])
        elif place < 2 + shape[0] and chosen.randrange(6):
            label = ("page", 0, 1, label[3], label[4], place - 2, label[6])
        block = block_of(chosen.randint(1, 30), label)
        if chosen.randrange(8) == 0:
            block = block[:64] + (7,) * 64
        if chosen.randrange(5) == 0:
            block = (0,) * 128
        image.append(block)
    return tuple(image)


def with_random_log(chosen, shape, image):
    """An image with commits in a row in its ring, from 1 on, some of them spoilt."""
    image = list(image)
    pages, ring = shape
    at, commit, epoch = 0, 1, 1
    while at < ring:
        batch = random_batch(chosen, pages, ring - at)
        epoch += chosen.choice((0, 0, 0, 1, 2, -1))
        for index, (number, page) in enumerate(batch):
            label = ["part", index, len(batch), max(epoch, 0), commit, number, page]
            if chosen.randrange(12) == 0:
                label[chosen.randint(1, 5)] += 1
            image[2 + pages + at] = block_of(chosen.randint(1, 30), tuple(label))
            at += 1
        commit += 1
    return tuple(image)
