"""Walks over a skin: round its knots, round its patches and along its rims."""

from halfseams.errors import NoRim
from halfseams.skins import check_half


def ahead_of(skin, half):
    """The half seam behind which half comes."""
    check_half(skin, half)
    return skin[0].index(half)


def left_of(skin, half):
    """The half seam left of half round its knot, or None."""
    return skin[1][ahead_of(skin, half)]


def right_of(skin, half):
    """The half seam right of half round its knot, or None."""
    check_half(skin, half)
    onward, mates = skin
    mate = mates[half]
    if mate is None:
        return None
    return onward[mate]


def round_knot(skin, half):
    """The walk round the knot of half, to the left."""
    check_half(skin, half)
    return walk_left(skin, all_ahead(skin), first_of_knot(skin, half))


def patch_of(skin, half):
    """The half seams of the patch of half, from half on."""
    check_half(skin, half)
    onward = skin[0]
    walk = [half]
    at = onward[half]
    while at != half:
        walk.append(at)
        at = onward[at]
    return tuple(walk)


def rim_of(skin, half):
    """The half seams of the rim of half, from half on."""
    check_half(skin, half)
    onward, mates = skin
    if mates[half] is not None:
        raise NoRim(f"half seam {half} has a mate")
    walk = [half]
    at = first_of_knot(skin, onward[half])
    while at != half:
        walk.append(at)
        # A knot at a rim begins with the one half seam there that has no mate.
        at = first_of_knot(skin, onward[at])
    return tuple(walk)


def knots(skin):
    """The walks round all knots, by their least half seams."""
    ahead = all_ahead(skin)
    return each_once(all_halves(skin), lambda half: walk_left(skin, ahead, first_of_knot(skin, half)))


def seams(skin):
    """All seams, by their least half seams, each of two mates or of one half seam at a rim."""
    told = []
    for half, mate in enumerate(skin[1]):
        if mate is None:
            told.append((half,))
        elif half < mate:
            told.append((half, mate))
    return tuple(told)


def patches(skin):
    """The walks round all patches, by their least half seams."""
    return each_once(all_halves(skin), lambda half: patch_of(skin, half))


def rims(skin):
    """The walks along all rims, by their least half seams."""
    mateless = [half for half, mate in enumerate(skin[1]) if mate is None]
    return each_once(mateless, lambda half: rim_of(skin, half))


def knot_places(skin):
    """A list of the place of each half seam's knot among all knots."""
    places = [0] * len(skin[0])
    for place, knot in enumerate(knots(skin)):
        for half in knot:
            places[half] = place
    return places


def patches_by(skin, places):
    """All patches, each half seam told by what stands in its place in the list."""
    return tuple([tuple([places[half] for half in patch]) for patch in patches(skin)])


def is_at_rim(skin, half):
    """Whether the knot of half lies at a rim."""
    return skin[1][first_of_knot(skin, half)] is None


def seam_of(skin, half):
    """The half seams of the seam of half, half first."""
    mate = skin[1][half]
    if mate is None:
        return (half,)
    return half, mate


def all_halves(skin):
    """All half seams of the skin, rising."""
    return list(range(len(skin[0])))


def all_ahead(skin):
    """A list of the half seam ahead of each one."""
    onward = skin[0]
    ahead = [0] * len(onward)
    for half, behind in enumerate(onward):
        ahead[behind] = half
    return ahead


def first_of_knot(skin, half):
    """Where the walk round the knot of half begins: the one with nothing to its right, else half."""
    at = half
    while True:
        after = right_of(skin, at)
        if after is None:
            return at
        if after == half:
            return half
        at = after


def walk_left(skin, ahead, first):
    """All that one comes to from first by going left, until one is round or at the rim."""
    mates = skin[1]
    walk = [first]
    at = mates[ahead[first]]
    while at is not None and at != first:
        walk.append(at)
        at = mates[ahead[at]]
    return tuple(walk)


def each_once(halves, walk_from):
    """The walks from these rising half seams, but none from one that an earlier walk came to."""
    met = set()
    told = []
    for half in halves:
        if half not in met:
            walk = walk_from(half)
            told.append(walk)
            for one in walk:
                met.add(one)
    return tuple(told)
