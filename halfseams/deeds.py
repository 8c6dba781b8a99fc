"""Deeds as tuples of a word and numbers: done to skins, led back, and told ahead."""

from halfseams.counts import changes, totals
from halfseams.cuts import cut, folded, joined, merged, puffed, split, turned, unturned
from halfseams.knotwork import drawn, grown, parted
from halfseams.rimwork import capped, opened, ripped, sewn
from halfseams.skins import is_whole
from halfseams.stitches import number_behind
from halfseams.walks import patch_of

WORDS_OF_ONE = ("split", "merge", "join", "turn", "unturn", "fold", "puff", "draw", "grow", "cap", "open", "rip")
WORDS_OF_TWO = ("cut", "part", "sew")


def is_deed(thing):
    """Whether thing, which may be anything, is a deed."""
    if not isinstance(thing, tuple) or not thing or not isinstance(thing[0], str):
        return False
    if not all([is_whole(number) for number in thing[1:]]):
        return False
    if thing[0] in WORDS_OF_ONE:
        return len(thing) == 2
    return thing[0] in WORDS_OF_TWO and len(thing) == 3


def done(skin, deed):
    """The skin behind the deed."""
    if deed[0] in WORDS_OF_TWO:
        return done_to_two(skin, deed[0], deed[1], deed[2])
    return done_to_one(skin, deed[0], deed[1])


def done_to_two(skin, word, half, other):
    """The skin behind a deed with two numbers."""
    match word:
        case "cut":
            return cut(skin, half, other)
        case "part":
            return parted(skin, half, other)
        case "sew":
            return sewn(skin, half, other)


def done_to_one(skin, word, half):
    """The skin behind a deed with one number."""
    match word:
        case "split":
            return split(skin, half)
        case "merge":
            return merged(skin, half)
        case "join":
            return joined(skin, half)
        case "turn":
            return turned(skin, half)
        case "unturn":
            return unturned(skin, half)
        case "fold":
            return folded(skin, half)
        case "puff":
            return puffed(skin, half)
        case "draw":
            return drawn(skin, half)
        case "grow":
            return grown(skin, half)
        case "cap":
            return capped(skin, half)
        case "open":
            return opened(skin, half)
        case "rip":
            return ripped(skin, half)


def taken_by(skin, deed):
    """The half seams that the deed takes away."""
    onward, mates = skin
    word, half = deed[0], deed[1]
    taken = ()
    if word == "merge":
        taken = (onward[half], mates[half])
    elif word == "join" or word == "draw":
        taken = (half, mates[half])
    elif word == "fold" or word == "open":
        taken = patch_of(skin, half)
    return tuple([one for one in taken if one is not None])


def back_deed(skin, deed):
    """The deed that leads back, in the numbers behind the deed."""
    # What is refused as a deed has no back deed.
    done(skin, deed)
    taken = taken_by(skin, deed)
    word, *halves = way_back(skin, deed)
    numbers = [number_behind(half, taken) for half in halves]
    return (word, *numbers)


def way_back(skin, deed):
    """The deed that leads back, in the numbers ahead of the deed."""
    half, mate = deed[1], skin[1][deed[1]]
    new = len(skin[0])
    match deed[0]:
        case "split":
            return "merge", half
        case "merge":
            return "split", half
        case "turn":
            return "unturn", half
        case "unturn":
            return "turn", half
        case "cut":
            return "join", new
        case "join":
            return back_of_join(skin, half)
        case "part" | "grow":
            return "draw", new
        case "draw":
            return back_of_draw(skin, half)
        case "puff":
            return "fold", new
        case "fold":
            return back_of_fold(skin, half)
        case "cap":
            return "open", new
        case "open":
            return "cap", mate
        case "sew":
            return "rip", half
        case "rip":
            return "sew", half, mate


def back_of_join(skin, half):
    """The cut that leads back."""
    first, second = left_behind(skin, half)
    return "cut", first, second


def back_of_draw(skin, half):
    """The parting or growing that leads back."""
    if skin[1][half] is None:
        return "grow", skin[0][half]
    first, second = left_behind(skin, half)
    return "part", first, second


def left_behind(skin, half):
    """What comes behind half and behind its mate; where one of these is taken away with them, the other twice."""
    onward, mates = skin
    taken = (half, mates[half])
    first, second = onward[half], onward[mates[half]]
    if first in taken:
        return second, second
    if second in taken:
        return first, first
    return first, second


def back_of_fold(skin, half):
    """The puff that leads back, of one that had a mate in the folded patch."""
    onward, mates = skin
    if mates[half] is None:
        return "puff", mates[onward[half]]
    return "puff", mates[half]


def foretold(skin, deed):
    """By how much each of the totals is more behind the deed."""
    return changes(totals(skin), totals(done(skin, deed)))
