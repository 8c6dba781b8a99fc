"""Skins made of patches that are told by their knots, and told so again."""

from halfseams.errors import NoSkin, TooMany
from halfseams.skins import MOST_HALVES
from halfseams.walks import knot_places, patches_by


def by_knots(patches):
    """The skin of patches that are told by the numbers of their knots."""
    lengths = [len(patch) for patch in patches]
    if not lengths or min(lengths) == 0 or sum(lengths) > MOST_HALVES:
        raise TooMany(f"patches told by knots have 1 to {MOST_HALVES} numbers in all, and none is empty")
    ways = ways_of(patches)
    check_ways(ways)
    half_of = {way: half for half, way in enumerate(ways)}
    mates = [half_of.get((end, start)) for start, end in ways]
    skin = (onward_of(lengths), tuple(mates))
    check_knots(skin, [start for start, end in ways])
    return skin


def ways_of(patches):
    """Of each half seam the number from which it leads and the one to which it leads."""
    ways = []
    for patch in patches:
        for start, end in zip(patch, patch[1:] + patch[:1]):
            ways.append((start, end))
    return ways


def onward_of(lengths):
    """What comes behind each half seam, in patches of such lengths."""
    onward = []
    for length in lengths:
        first = len(onward)
        onward.extend(list(range(first + 1, first + length)))
        onward.append(first)
    return tuple(onward)


def check_ways(ways):
    """Refuse the first half seam that leads from a number to the same, or as a lesser one does."""
    met = set()
    for half, (start, end) in enumerate(ways):
        if start == end or (start, end) in met:
            raise NoSkin(half)
        met.add((start, end))


def check_knots(skin, starts):
    """Refuse the first half seam from whose number others lead that have another knot."""
    places = knot_places(skin)
    place_of = {}
    torn = set()
    for half, start in enumerate(starts):
        if place_of.setdefault(start, places[half]) != places[half]:
            torn.add(start)
    for half, start in enumerate(starts):
        if start in torn:
            raise NoSkin(half)


def told_by_knots(skin):
    """The patches of a skin, each half seam as the place of its knot among all knots."""
    return patches_by(skin, knot_places(skin))
