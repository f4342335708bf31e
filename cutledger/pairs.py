"""Two disks that are written alike and cut together, and harm of an image (points 19 and 20)."""

from cutledger.blocks import BLOCK_BYTES, has_noughts_alone, is_whole, read_stamps
from cutledger.checksums import with_flips
from cutledger.cuts import are_fates, moment_of_cut, whole_moment_at
from cutledger.disks import check_disk, check_image
from cutledger.errors import BadCut, BadHarm
from cutledger.lives import check_numbers, lived
from cutledger.odds import FATES, chances_at, moment_with_chance, ways_at
from cutledger.values import is_integer, is_tuple_of

MOST_HARMED = 40
MOST_FLIPS = 16
WIDEST_FLIPS = 15

# The pairs of fates of a block that waits, and those of them that leave it done on a disk at least.
PAIRS_OF_FATES = FATES * FATES
DONE_ON_ONE = FATES * FATES - (FATES - 1) * (FATES - 1)


def check_two(shape, one, other):
    """Raise BadShape or BadImage unless these are a shape and two images of it."""
    check_disk(shape, one)
    check_image(shape, other)


def block_told(one, other):
    """What two blocks at one place tell together."""
    if is_whole(one) and is_whole(other):
        return one if read_stamps(one) >= read_stamps(other) else other
    if is_whole(one):
        return one
    if is_whole(other) or has_noughts_alone(other):
        return other
    return one


def image_told(one, other):
    """What joined tells of what are known to be two images of a shape."""
    return tuple([block_told(block, twin) for block, twin in zip(one, other)])


def joined(shape, one, other):
    """The image that two images tell together."""
    check_two(shape, one, other)
    return image_told(one, other)


def scars(shape, one, other):
    """The pairs of disk and place of the blocks that are not those of the joined image."""
    check_two(shape, one, other)
    told = image_told(one, other)
    return tuple([
        (disk, place) for place, block in enumerate(told) for disk, image in enumerate((one, other))
        if image[place] != block
    ])


def pair_images(shape, image, deeds, cut):
    """The two images that a pair cut leaves."""
    life = lived(shape, image, deeds)
    if not is_tuple_of(cut, 3, 3):
        raise BadCut()
    moment = moment_of_cut(life, cut[:2])
    if not are_fates(cut[2], len(moment.waits)):
        raise BadCut()
    check_numbers(life)
    return (moment.image_left(cut[1]), moment.image_left(cut[2]))


def pair_ways(shape, image, deeds, count):
    """For each commit from S to W, with how many pairs of fates it comes back."""
    return ways_at(whole_moment_at(shape, image, deeds, count), DONE_ON_ONE, PAIRS_OF_FATES)


def pair_chances(shape, image, deeds, count, sure):
    """For each commit from S to W, the chance that it comes back if each block is done on each disk with a chance."""
    moment = moment_with_chance(shape, image, deeds, count, sure)
    done, denominator = sure
    lost = denominator - done
    whole = denominator * denominator
    return chances_at(moment, (whole - lost * lost, whole))


def is_harm(value, image, least):
    """Whether a value is a pair of a place, from a least one on, of a whole block and of flips that harm it."""
    if not is_tuple_of(value, 2, 2):
        return False
    place, flips = value
    if not is_integer(place, least, len(image) - 1) or not is_tuple_of(flips, 1, MOST_FLIPS):
        return False
    if not all(is_integer(flip, 0, 8 * BLOCK_BYTES - 1) for flip in flips):
        return False
    rises = all(flip < behind for flip, behind in zip(flips, flips[1:]))
    return rises and flips[-1] - flips[0] <= WIDEST_FLIPS and is_whole(image[place])


def check_harm(image, harm):
    """Raise BadHarm for a value that is no harm of what is known to be an image."""
    if not is_tuple_of(harm, 0, MOST_HARMED):
        raise BadHarm(None)
    least = 0
    for index, pair in enumerate(harm):
        if not is_harm(pair, image, least):
            raise BadHarm(index)
        least = pair[0] + 1


def harmed(shape, image, harm):
    """An image with the bits of its harm changed."""
    check_disk(shape, image)
    check_harm(image, harm)
    told = list(image)
    for place, flips in harm:
        told[place] = with_flips(told[place], flips)
    return tuple(told)
