"""What deeds have in common: how half seams are put in and taken away, and which numbers they have then."""

from halfseams.errors import TooMany
from halfseams.skins import MOST_HALVES


def check_room(skin, many):
    """Refuse to bring so many new half seams where there would be too many."""
    if len(skin[0]) + many > MOST_HALVES:
        raise TooMany(f"there would be more than {MOST_HALVES} half seams")


def put_behind(onward, half):
    """Put a new half seam, which gets the next number, behind half in the list onward."""
    onward.append(onward[half])
    onward[half] = len(onward) - 1


def without(onward, mates, taken):
    """The skin that is left when those taken are away; whose mate is taken has none then."""
    number = {}
    for half in range(len(onward)):
        if half not in taken:
            number[half] = len(number)
    left_onward = []
    left_mates = []
    for half in number:
        behind = onward[half]
        while behind not in number:
            behind = onward[behind]
        left_onward.append(number[behind])
        # None, too, has no number.
        left_mates.append(number.get(mates[half]))
    return tuple(left_onward), tuple(left_mates)


def number_behind(half, taken):
    """The number that half has when those taken are away."""
    return half - len([one for one in taken if one < half])
