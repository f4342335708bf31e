"""Points 7 to 13 once more, slowly and straight from their words, for the tests to compare with.

It trusts blocks.py alone, which test_blocks.py tests byte by byte.
"""

from fractions import Fraction
from itertools import product

from cutledger.blocks import block_of, is_never, label_of, stamps_of, torn


def model_head(shape, image):
    heads = []
    for place in (1, 0):
        label = label_of(image[place])
        if label and label[0] == "head" and label[5] < shape[1]:
            heads.append((stamps_of(image[place])[0], -place, label))
    if not heads:
        return None
    _, place, label = max(heads)
    return (-place, label[3], label[4], label[5])


def model_log(shape, image):
    """The commits read, the ending, and the ring's next block."""
    pages, ring = shape
    _, so_far, last, at = model_head(shape, image) or (None, 0, 0, 0)
    commits, taken = [], 0
    while taken < ring:
        round_it = [(at + further) % ring for further in range(ring)]
        ahead = [image[2 + pages + number] for number in round_it]
        labels = [label_of(block) for block in ahead]
        first = labels[0]
        if is_never(ahead[0]):
            return commits, ("never", at), at
        if first is None:
            return commits, ("torn", at), at
        kind, index, many, epoch, commit = first[:5]
        if kind == "blank":
            return commits, ("blank", at), at
        if (kind, index, commit) != ("part", 0, last + 1) or many < 1:
            return commits, ("other", at), at
        if epoch < so_far:
            return commits, ("elder", at), at
        if many > ring - taken:
            return commits, ("long", at), at
        wanted = [("part", number, many, epoch, commit) for number in range(many)]
        for number in range(many):
            if labels[number] is None or labels[number][:5] != wanted[number]:
                return commits, ("lacks", round_it[number]), at
        numbers = [label[5] for label in labels[:many]]
        if sorted(set(numbers)) != numbers or numbers[-1] >= pages:
            return commits, ("pages", at), at
        commits.append((commit, epoch, at, tuple((label[5], label[6]) for label in labels[:many])))
        taken += many
        at = (at + many) % ring
        so_far, last = epoch, commit
    return commits, ("full", None), at


def model_told(shape, image, commit):
    """For each page what is told as of a commit, None where nothing is."""
    commits = model_log(shape, image)[0]
    pages = []
    for number in range(shape[0]):
        said = [dict(batch)[number] for done, _, _, batch in commits if done <= commit and number in dict(batch)]
        block = image[2 + number]
        label = label_of(block)
        if said:
            pages.append(said[-1])
        elif is_never(block):
            pages.append(())
        elif label and label[0] == "page" and label[5] == number and label[4] <= commit:
            pages.append(label[6])
        else:
            pages.append(None)
    return pages


def model_last(shape, image):
    head = model_head(shape, image)
    return (head[2] if head else 0) + len(model_log(shape, image)[0])


def model_floor(shape, image):
    """The floor, or ("Harmed", page)."""
    head = model_head(shape, image)
    for commit in range(head[2] if head else 0, model_last(shape, image) + 1):
        if None not in model_told(shape, image, commit):
            return commit
    return ("Harmed", model_told(shape, image, model_last(shape, image)).index(None))


def model_steps(shape, image, deeds):
    """The steps of deeds that can all be done, as (place, label) and None for a sync, and the ends."""
    pages, ring = shape
    head = model_head(shape, image)
    commits, _, at = model_log(shape, image)
    last = model_last(shape, image)
    image = list(image)
    stamp = 1 + max(max(stamps_of(block)) for block in image)
    labels = [label_of(block) for block in image]
    epoch = 1 + max([label[3] for label in labels if label and label[0] != "blank"] + [0])
    log = [batch for _, _, _, batch in commits]
    state = model_told(shape, image, last)
    head_place = head[0] if head else None
    out, ends = [], []

    def put(place, label):
        nonlocal stamp
        out.append(("block", place, block_of(stamp, label)))
        image[place] = out[-1][2]
        stamp += 1

    for deed in deeds:
        if deed[0] == "write":
            last += 1
            for index, (number, page) in enumerate(deed[1]):
                put(2 + pages + at, ("part", index, len(deed[1]), epoch, last, number, page))
                at = (at + 1) % ring
                state[number] = page
            log.append(deed[1])
        if deed[0] == "check":
            out.append(("sync",))
            for number in range(pages):
                if any(number in dict(batch) for batch in log):
                    put(2 + number, ("page", 0, 1, epoch, last, number, state[number]))
            out.append(("sync",))
            head_place = {None: 0, 0: 1, 1: 0}[head_place]
            put(head_place, ("head", 0, 1, epoch, last, at, ()))
            log = []
        if deed[0] == "tidy":
            held = sum(len(batch) for batch in log)
            for further in range(ring):
                number = (at + further) % ring
                block = image[2 + pages + number]
                label = label_of(block)
                if further < ring - held and not is_never(block) and not (label and label[0] == "blank"):
                    put(2 + pages + number, ("blank", 0, 1, epoch, last, 0, ()))
        if deed[0] != "write":
            out.append(("sync",))
        ends.append(len(out))
    return out, ends


def model_waits(life, count):
    """The steps done before the last sync among the first so many, and those that wait."""
    since = max([at + 1 for at in range(count) if life[at] == ("sync",)], default=0)
    return life[:since], life[since:count]


def model_cut(image, life, count, fates):
    """The image that a cut leaves."""
    done, waits = model_waits(life, count)
    image = list(image)
    for step in done:
        if step[0] == "block":
            image[step[1]] = step[2]
    stood = list(image)
    for (_, place, block), fate in zip(waits, fates):
        image[place] = torn(stood[place], block, fate)
    return tuple(image)


def model_outcomes(shape, image, life, count, choices=range(9)):
    """For all fates of so many blocks out of some choices: the commit that comes back, by fates."""
    outcomes = {}
    for fates in product(choices, repeat=len(model_waits(life, count)[1])):
        outcomes[fates] = model_last(shape, model_cut(image, life, count, fates))
    return outcomes


def model_promise(shape, image, life, count):
    """The commits S and W, by their words."""
    first = model_last(shape, image)
    safe = whole = first
    since = len(model_waits(life, count)[0])
    parts = {}
    for at, step in enumerate(life[:count]):
        label = label_of(step[2]) if step[0] == "block" else None
        if label and label[0] == "part":
            parts.setdefault(label[4], []).append(at)
            if len(parts[label[4]]) == label[2]:
                whole = max(whole, label[4])
                if at < since:
                    safe = max(safe, label[4])
    return safe, whole


def model_chances(shape, image, life, count, sure):
    """The chances by trying out all of done or not done."""
    sure = Fraction(*sure)
    chances = {}
    for fates, commit in model_outcomes(shape, image, life, count, (0, 8)).items():
        chance = Fraction(1)
        for fate in fates:
            chance *= sure if fate == 8 else 1 - sure
        chances[commit] = chances.get(commit, Fraction(0)) + chance
    return chances


def pair_of(fraction):
    return (fraction.numerator, fraction.denominator)
