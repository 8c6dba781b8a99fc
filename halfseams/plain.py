"""Plain skins, and how they are shrunk and stay plain."""

from halfseams.byknots import told_by_knots
from halfseams.cuts import folded
from halfseams.errors import Harm, NoPlain
from halfseams.knotwork import drawn
from halfseams.skins import check_half
from halfseams.stitches import number_behind
from halfseams.walks import is_at_rim, knot_places, patch_of, seam_of, seams


def is_plain(skin):
    """Whether all patches have three knots, and no two seams, nor two patches, have the same ones."""
    threes = threes_of(skin)
    if any([len(three) != 3 or len(set(three)) != 3 for three in threes]):
        return False
    places = knot_places(skin)
    ends = [tuple(sorted((places[seam[0]], places[skin[0][seam[0]]]))) for seam in seams(skin)]
    return len(set(ends)) == len(ends) and len(set(threes)) == len(threes)


def threes_of(skin):
    """A list of the knots of each patch, rising."""
    return [tuple(sorted(three)) for three in told_by_knots(skin)]


def harmless(skin, half):
    """Whether half can be drawn in a plain skin, and what becomes two-sided folded, and the skin stays plain."""
    check_half(skin, half)
    if not is_plain(skin):
        raise NoPlain("the skin is not plain")
    onward, mates = skin
    places = knot_places(skin)
    one, other = places[half], places[onward[half]]
    thirds = [places[onward[onward[side]]] for side in seam_of(skin, half)]
    if shared_knots(skin, places, one, other) != sorted(thirds):
        return False
    if mates[half] is None:
        return any([mates[side] is not None for side in patch_of(skin, half)])
    if is_at_rim(skin, half) and is_at_rim(skin, onward[half]):
        return False
    threes = threes_of(skin)
    return not all([tuple(sorted((knot, *thirds))) in threes for knot in (one, other)])


def shared_knots(skin, places, one, other):
    """The knots to which seams lead from both knots, rising."""
    beside_other = knots_beside(skin, places, other)
    return [knot for knot in knots_beside(skin, places, one) if knot in beside_other]


def knots_beside(skin, places, knot):
    """The knots to which seams lead from the knot, rising."""
    found = set()
    for half, behind in enumerate(skin[0]):
        if places[half] == knot:
            found.add(places[behind])
        if places[behind] == knot:
            found.add(places[half])
    return sorted(found)


def shrunk(skin, half):
    """The plain skin where a harmless half is drawn, and what became two-sided is folded."""
    if not harmless(skin, half):
        raise Harm("plain")
    taken = seam_of(skin, half)
    first, *rest = [number_behind(skin[0][side], taken) for side in taken]
    left = drawn(skin, half)
    folded_away = patch_of(left, first)
    left = folded(left, first)
    for second in rest:
        left = folded(left, number_behind(second, folded_away))
    return left
