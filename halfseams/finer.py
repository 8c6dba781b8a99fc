"""Finer skins, made, or only asked for their half seams' numbers, however fine.

The half seam h of a skin has four in the finer one: 4 h on the first half of its seam, then 4 h + 1, which cuts off
a corner of the patch, then 4 h + 2 on the second half of the seam ahead, and 4 h + 3 in the middle, beyond the cut."""

from halfseams.counts import totals
from halfseams.errors import NoHalf, TooMany
from halfseams.stitches import check_room

MOST_TIMES = 60


def finer(skin):
    """The skin in which each seam is halved, and each patch of s half seams cut into s + 1."""
    check_room(skin, 3 * len(skin[0]))
    numbers = list(range(4 * len(skin[0])))
    onward = [onward_at(skin, 1, number) for number in numbers]
    mates = [mate_at(skin, 1, number) for number in numbers]
    return tuple(onward), tuple(mates)


def far_onward(skin, times, number):
    """The number behind this one round its patch, in the skin that is so many times finer."""
    check_number(skin, times, number)
    return onward_at(skin, times, number)


def far_ahead(skin, times, number):
    """The number ahead of this one round its patch, in the skin that is so many times finer."""
    check_number(skin, times, number)
    return ahead_at(skin, times, number)


def far_mate(skin, times, number):
    """The mate of this number, or None, in the skin that is so many times finer."""
    check_number(skin, times, number)
    return mate_at(skin, times, number)


def far_totals(skin, times):
    """The totals of the skin that is so many times finer."""
    check_times(times)
    many_knots, many_seams, many_patches, *rest = totals(skin)
    halves = len(skin[0])
    for step in range(times):
        many_knots += many_seams
        # Each seam is halved, and each half seam brings a seam that cuts off a corner.
        many_seams = 2 * many_seams + halves
        many_patches += halves
        halves *= 4
    return many_knots, many_seams, many_patches, *rest


def check_times(times):
    """Refuse a count of times beyond its bounds."""
    if not 0 <= times <= MOST_TIMES:
        raise TooMany(f"a skin is made finer 0 to {MOST_TIMES} times")


def check_number(skin, times, number):
    """Refuse a count of times beyond its bounds, then a number that the finer skin does not have."""
    check_times(times)
    many = len(skin[0])
    for step in range(times):
        many *= 4
    if not 0 <= number < many:
        raise NoHalf("the finer skin has no half seam of this number")


def onward_at(skin, times, number):
    """What comes behind a number that the finer skin has."""
    if times == 0:
        return skin[0][number]
    half, place = divmod(number, 4)
    if place == 3:
        return 4 * onward_at(skin, times - 1, half) + 3
    return 4 * half + (place + 1) % 3


def ahead_at(skin, times, number):
    """What comes ahead of a number that the finer skin has."""
    if times == 0:
        return skin[0].index(number)
    half, place = divmod(number, 4)
    if place == 3:
        return 4 * ahead_at(skin, times - 1, half) + 3
    return 4 * half + (place + 2) % 3


def mate_at(skin, times, number):
    """The mate, or None, of a number that the finer skin has."""
    if times == 0:
        return skin[1][number]
    half, place = divmod(number, 4)
    if place == 1 or place == 3:
        return 4 * half + 4 - place
    # 4 h lies on the seam of h, but 4 h + 2 on that of the one ahead of h.
    side = half if place == 0 else ahead_at(skin, times - 1, half)
    mate = mate_at(skin, times - 1, side)
    if mate is None:
        return None
    if place == 0:
        return 4 * onward_at(skin, times - 1, mate) + 2
    return 4 * mate
