"""Deeds at rims."""

from halfseams.errors import Harm, NoRim, Unlike
from halfseams.skins import check_half
from halfseams.stitches import check_room, without
from halfseams.walks import is_at_rim, knot_places, patch_of, rim_of


def capped(skin, half):
    """The skin with a new patch sewn to the whole rim of half."""
    rim = rim_of(skin, half)
    check_room(skin, len(rim))
    onward, mates = list(skin[0]), list(skin[1])
    new = len(onward)
    last = new + len(rim) - 1
    for place, one in enumerate(rim):
        mates[one] = new + place
    # The new patch goes round the other way than the rim.
    onward.extend([last] + list(range(new, last)))
    mates.extend(rim)
    return tuple(onward), tuple(mates)


def opened(skin, half):
    """The skin without the patch of half, in whose place there is a rim."""
    check_half(skin, half)
    onward, mates = skin
    patch = patch_of(skin, half)
    if any([mates[one] is None for one in patch]):
        raise Harm("rim")
    if any([mates[one] in patch for one in patch]):
        raise Harm("one")
    if not has_knots_alone(skin, patch):
        raise Harm("knot")
    return without(onward, mates, patch)


def has_knots_alone(skin, patch):
    """Whether no two half seams of the patch have one knot, and none of their knots lies at a rim."""
    places = knot_places(skin)
    if len(set([places[one] for one in patch])) < len(patch):
        return False
    return not any([is_at_rim(skin, one) for one in patch])


def sewn(skin, half, other):
    """The skin where two half seams at rims have become mates."""
    check_half(skin, half)
    check_half(skin, other)
    mates = list(skin[1])
    if mates[half] is not None or mates[other] is not None:
        raise NoRim(f"half seam {half} or {other} has a mate")
    if half == other:
        raise Unlike(f"half seam {half} can not be sewn to itself")
    mates[half] = other
    mates[other] = half
    return skin[0], tuple(mates)


def ripped(skin, half):
    """The skin where half and its mate have no mates."""
    check_half(skin, half)
    mates = list(skin[1])
    mate = mates[half]
    if mate is None:
        raise Harm("rim")
    mates[half] = mates[mate] = None
    return skin[0], tuple(mates)
