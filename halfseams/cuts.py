"""Deeds on seams and patches."""

from halfseams.errors import Harm, Unlike
from halfseams.skins import check_half
from halfseams.stitches import check_room, put_behind, without
from halfseams.walks import ahead_of, patch_of, seam_of


def split(skin, half):
    """The skin with a new knot on the seam of half."""
    check_half(skin, half)
    check_room(skin, len(seam_of(skin, half)))
    onward, mates = list(skin[0]), list(skin[1])
    new, mate = len(onward), mates[half]
    put_behind(onward, half)
    mates.append(mate)
    if mate is not None:
        put_behind(onward, mate)
        mates.append(half)
        mates[half] = new + 1
        mates[mate] = new
    return tuple(onward), tuple(mates)


def merged(skin, half):
    """The skin where half and what comes behind it have become one."""
    check_half(skin, half)
    if not is_mergeable(skin, half):
        raise Harm("knot")
    onward, mates = skin[0], list(skin[1])
    behind, mate = onward[half], mates[half]
    far = mates[behind]
    mates[half] = far
    if far is None:
        return without(onward, mates, (behind,))
    mates[far] = half
    return without(onward, mates, (behind, mate))


def is_mergeable(skin, half):
    """Whether at the end of half there is a knot that only its seam and the next one have."""
    onward, mates = skin
    behind, mate = onward[half], mates[half]
    far = mates[behind]
    if behind == half or behind == mate:
        return False
    if far is None:
        return mate is None
    return onward[far] == mate


def cut(skin, half, other):
    """The skin where the patch of both is cut in two, from the knot of the one to that of the other."""
    check_half(skin, half)
    check_half(skin, other)
    if other not in patch_of(skin, half):
        raise Unlike(f"half seams {half} and {other} are not of one patch")
    check_room(skin, 2)
    onward, mates = list(skin[0]), list(skin[1])
    new = len(onward)
    onward.extend([half, other])
    onward[ahead_of(skin, other)] = new
    onward[ahead_of(skin, half)] = new + 1
    if half == other:
        onward[new] = new
    mates.extend([new + 1, new])
    return tuple(onward), tuple(mates)


def joined(skin, half):
    """The skin where the patches of half and of its mate have become one."""
    check_two_patches(skin, half)
    onward, mates = list(skin[0]), skin[1]
    mate = mates[half]
    if onward[half] == half and onward[mate] == mate:
        raise Harm("last")
    onward[half], onward[mate] = onward[mate], onward[half]
    return without(onward, mates, (half, mate))


def check_two_patches(skin, half):
    """Refuse a half seam that has no mate, or has one in its own patch."""
    check_half(skin, half)
    mate = skin[1][half]
    if mate is None:
        raise Harm("rim")
    if mate in patch_of(skin, half):
        raise Harm("one")


def turned(skin, half):
    """The skin where the seam of half leads between the other two knots of its two patches of three."""
    (one, after, last), (mate, mate_after, mate_last) = two_threes(skin, half)
    return with_threes(skin, (one, last, mate_after), (mate, mate_last, after))


def unturned(skin, half):
    """The skin that leads to this one where half is turned in it."""
    (one, after, last), (mate, mate_after, mate_last) = two_threes(skin, half)
    return with_threes(skin, (one, mate_last, after), (mate, last, mate_after))


def two_threes(skin, half):
    """The patches of half and of its mate, which must be two of three half seams."""
    check_two_patches(skin, half)
    both = (patch_of(skin, half), patch_of(skin, skin[1][half]))
    if len(both[0]) != 3 or len(both[1]) != 3:
        raise Harm("three")
    return both


def with_threes(skin, one, other):
    """The skin with the same mates where these are two of the patches."""
    onward = list(skin[0])
    for first, second, third in (one, other):
        onward[first] = second
        onward[second] = third
        onward[third] = first
    return tuple(onward), skin[1]


def folded(skin, half):
    """The skin without the patch of two to which half belongs, its sides sewn to one another."""
    check_half(skin, half)
    patch = patch_of(skin, half)
    if len(patch) != 2:
        raise Harm("two")
    mates = list(skin[1])
    one, other = mates[patch[0]], mates[patch[1]]
    if one == patch[1] or (one is None and other is None):
        raise Harm("last")
    if one is not None:
        mates[one] = other
    if other is not None:
        mates[other] = one
    return without(skin[0], mates, patch)


def puffed(skin, half):
    """The skin with a new patch of two half seams between half and its mate, or the rim."""
    check_half(skin, half)
    check_room(skin, 2)
    onward, mates = list(skin[0]), list(skin[1])
    new, mate = len(onward), mates[half]
    onward.extend([new + 1, new])
    mates.extend([half, mate])
    mates[half] = new
    if mate is not None:
        mates[mate] = new + 1
    return tuple(onward), tuple(mates)
