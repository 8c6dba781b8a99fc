"""Deeds on knots."""

from halfseams.counts import reached_from
from halfseams.errors import Harm, Unlike
from halfseams.skins import check_half
from halfseams.stitches import check_room, put_behind, without
from halfseams.walks import ahead_of, is_at_rim, round_knot, seam_of


def drawn(skin, half):
    """The skin without the seam of half, its two knots drawn into one."""
    check_half(skin, half)
    onward, mates = skin
    taken = seam_of(skin, half)
    end = onward[half]
    if end in round_knot(skin, half):
        raise Harm("loop")
    if len(taken) == 2 and is_at_rim(skin, half) and is_at_rim(skin, end):
        raise Harm("rims")
    if len(reached_from(skin, half)) == len(taken):
        raise Harm("last")
    return without(onward, mates, taken)


def parted(skin, half, other):
    """The skin where the knot of both is parted in two, with a new seam between them."""
    check_half(skin, half)
    check_half(skin, other)
    if other not in round_knot(skin, half):
        raise Unlike(f"half seams {half} and {other} have not one knot")
    check_room(skin, 2)
    onward, mates = list(skin[0]), list(skin[1])
    new = len(onward)
    put_behind(onward, ahead_of(skin, half))
    # Ahead of half there is now the first new one.
    put_behind(onward, new if half == other else ahead_of(skin, other))
    mates.extend([new + 1, new])
    return tuple(onward), tuple(mates)


def grown(skin, half):
    """The skin with a new half seam at the rim, ahead of half."""
    check_half(skin, half)
    if not is_at_rim(skin, half):
        raise Harm("inner")
    check_room(skin, 1)
    onward = list(skin[0])
    put_behind(onward, ahead_of(skin, half))
    return tuple(onward), (*skin[1], None)
