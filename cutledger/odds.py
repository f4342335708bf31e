"""How many fates bring each commit back, and how likely it is (point 13)."""

from math import gcd

from cutledger.blocks import CELLS
from cutledger.cuts import moment_at, whole_moment_at
from cutledger.errors import BadRatio
from cutledger.lives import check_numbers
from cutledger.values import is_count, is_tuple_of

# A block that waits is lost, torn in one of 7 ways, or done.
FATES = CELLS + 1


def power(base, times):
    """An integer multiplied by itself so many times."""
    result = 1
    for _ in range(times):
        result = result * base
    return result


def lowest(numerator, denominator):
    """A ratio in lowest terms."""
    common = gcd(numerator, denominator)
    return (numerator // common, denominator // common)


def is_chance(value):
    """Whether a value is a ratio from 0 to 1."""
    if not is_tuple_of(value, 2, 2):
        return False
    numerator, denominator = value
    if not is_count(numerator) or not is_count(denominator) or numerator > denominator:
        return False
    return gcd(numerator, denominator) == 1


def parts_up_to(moment):
    """For each commit from S to W, how many parts that wait the commits up to it have."""
    totals = [0]
    for size in moment.sizes:
        totals.append(totals[-1] + size)
    return totals


def ways(shape, image, deeds, count):
    """For each commit from S to W, with how many fates it comes back."""
    return ways_at(whole_moment_at(shape, image, deeds, count), 1, FATES)


def ways_at(moment, done, fates):
    """For each commit from S to W, in how many ways it comes back, if each block that waits has so many fates, so
    many of which let it be done.
    """
    # A commit or a later one comes back exactly if all its parts and those before them are done.
    waits = len(moment.waits)
    at_least = [power(done, total) * power(fates, waits - total) for total in parts_up_to(moment)]
    return tuple(enumerate(differences(at_least), start=moment.safe))


def differences(numbers):
    """Each number less the next one, and the last one as it is."""
    return [number - behind for number, behind in zip(numbers, [*numbers[1:], 0])]


def moment_with_chance(shape, image, deeds, count, sure):
    """The moment behind a count, asked for a chance; each error of these arguments is raised."""
    moment = moment_at(shape, image, deeds, count)
    if not is_chance(sure):
        raise BadRatio()
    check_numbers(moment.life)
    return moment


def chances_at_least(moment, sure):
    """For each commit from S to W the chance that it or a later one comes back, as a numerator, if each block is
    done with a chance, and the denominator of them all.
    """
    done, denominator = sure
    totals = parts_up_to(moment)
    many = totals[-1]
    at_least = [power(done, total) * power(denominator, many - total) for total in totals]
    return (at_least, power(denominator, many))


def chances_at(moment, sure):
    """For each commit from S to W, the chance that it comes back if each block is done with a chance."""
    at_least, whole = chances_at_least(moment, sure)
    each = [lowest(part, whole) for part in differences(at_least)]
    return tuple(enumerate(each, start=moment.safe))


def chances(shape, image, deeds, count, sure):
    """For each commit from S to W, the chance that it comes back if each block is done with a chance."""
    return chances_at(moment_with_chance(shape, image, deeds, count, sure), sure)


def mean_lost(shape, image, deeds, count, sure):
    """The mean of how many of the commits up to W don't come back."""
    at_least, whole = chances_at_least(moment_with_chance(shape, image, deeds, count, sure), sure)
    # Each commit behind S is lost unless it or a later one comes back.
    return lowest(sum([whole - part for part in at_least[1:]]), whole)
