"""Plans: where checks and syncs go so that deeds can be done with as few as can be (point 17)."""

from cutledger.disks import check_batch_of, check_shape
from cutledger.errors import BadBatch, BadBatches, BadNumber, RingFull, TooMany
from cutledger.lives import CHECK, MOST_DEEDS, SYNC, check_numbers, is_deed, lived
from cutledger.values import is_integer, is_tuple_of

MOST_BATCHES = 20
HEAD_BLOCKS = 1


def check_batches(shape, batches):
    """Raise BadShape, BadBatches or RingFull unless these are a shape and batches that its ring has room for."""
    check_shape(shape)
    if not is_tuple_of(batches, 0, MOST_BATCHES):
        raise BadBatches(None)
    for index, batch in enumerate(batches):
        try:
            check_batch_of(batch, shape[0])
        except BadBatch:
            raise BadBatches(index)
    for index, batch in enumerate(batches):
        if len(batch) > shape[1]:
            raise RingFull(index)


def deeds_with_checks(batches, checked):
    """The deeds that write batches, with a check behind each of these numbers of batches."""
    deeds = []
    for many, batch in enumerate(batches):
        if many in checked:
            deeds.append(CHECK)
        deeds.append(("write", batch))
    return tuple(deeds)


def fewest_checks(shape, batches):
    """The deeds that write batches with as few checks as can be, each as late as can be."""
    check_batches(shape, batches)
    checked = []
    room = shape[1]
    for many, batch in enumerate(batches):
        if len(batch) > room:
            checked.append(many)
            room = shape[1]
        room -= len(batch)
    return deeds_with_checks(batches, checked)


def blocks_of_parts(batches):
    """How many blocks the writes of batches write."""
    return sum([len(batch) for batch in batches])


def blocks_of_check(batches):
    """How many blocks a check writes behind these batches: each page once, and a head."""
    return len(set([pair[0] for batch in batches for pair in batch])) + HEAD_BLOCKS


def cheapest_places(ring, batches):
    """The least number of blocks that checks among the writes of batches write, and the places of these checks,
    each told by how many batches are ahead of it.
    """
    # For each number of first batches, the cheapest checks of which the last one is right behind them.
    plans = [(0, ())]
    for many in range(1, len(batches) + 1):
        plan = min([
            (cost + blocks_of_check(batches[start:many]), (*places, many))
            for start, (cost, places) in enumerate(plans) if blocks_of_parts(batches[start:many]) <= ring
        ])
        plans.append(plan)
    return min([plan for start, plan in enumerate(plans) if blocks_of_parts(batches[start:]) <= ring])


def least_blocks(shape, batches):
    """The least number of blocks that writes of the batches, with checks where they are needed, write."""
    check_batches(shape, batches)
    return blocks_of_parts(batches) + cheapest_places(shape[1], batches)[0]


def cheapest(shape, batches):
    """Writes of the batches and checks that write the least number of blocks."""
    check_batches(shape, batches)
    return deeds_with_checks(batches, cheapest_places(shape[1], batches)[1])


def writes_in_order(pages, batches, value):
    """Whether a value is deeds that are writes of the batches in order and checks."""
    if not is_tuple_of(value, 0, MOST_DEEDS) or not all(is_deed(deed, pages) for deed in value):
        return False
    rest = [deed for deed in value if deed != CHECK]
    return rest == [("write", batch) for batch in batches]


def blocks_of_deeds(ring, deeds):
    """How many blocks writes and checks write on a blank disk, None if they can't all be done."""
    many = 0
    since = []
    for deed in deeds:
        if deed == CHECK:
            many += blocks_of_check(since)
            since = []
        else:
            since.append(deed[1])
            many += len(deed[1])
        if blocks_of_parts(since) > ring:
            return None
    return many


def shows_cheapest(shape, batches, value):
    """Whether a value is what cheapest may return."""
    check_batches(shape, batches)
    if not writes_in_order(shape[0], batches, value):
        return False
    return blocks_of_deeds(shape[1], value) == blocks_of_parts(batches) + cheapest_places(shape[1], batches)[0]


def with_syncs(shape, image, deeds, most):
    """The deeds with as few syncs put in as can be, each late, so that no cut takes more than so many commits."""
    life = lived(shape, image, deeds)
    if not is_integer(most, 1, MOST_DEEDS):
        raise BadNumber()
    check_numbers(life)
    done = []
    unsure = 0
    for deed in deeds:
        if deed[0] == "write":
            if unsure == most:
                done.append(SYNC)
                unsure = 0
            unsure += 1
        else:
            # A sync, a check and a tidy each have a sync among their steps.
            unsure = 0
        done.append(deed)
    if len(done) > MOST_DEEDS:
        raise TooMany(MOST_DEEDS)
    return tuple(done)
