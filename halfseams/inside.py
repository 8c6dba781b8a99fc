"""Skins turned inside out: their knots become patches, and their patches knots."""

from halfseams.errors import Harm
from halfseams.walks import all_ahead


def inside_out(skin):
    """The skin in which what lies left of a half seam comes behind it."""
    mates = skin[1]
    # A skin has rims just where a half seam has no mate.
    if None in mates:
        raise Harm("rim")
    return tuple([mates[before] for before in all_ahead(skin)]), mates
