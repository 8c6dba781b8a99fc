"""What a skin is, and where two tuples fail to make one."""

from halfseams.errors import NoHalf

MOST_HALVES = 400


def is_whole(thing):
    """Whether thing is a whole number."""
    # A truth counts as an int for Python, but not for the document.
    return isinstance(thing, int) and not isinstance(thing, bool)


def is_skin(thing):
    """Whether thing, which may be anything, is a skin."""
    if not isinstance(thing, tuple) or len(thing) != 2:
        return False
    onward, mates = thing
    return are_rows(onward, mates) and broken(onward, mates) is None


def are_rows(onward, mates):
    """Whether these are tuples of such lengths and kinds of things as a skin has."""
    if not isinstance(onward, tuple) or not isinstance(mates, tuple):
        return False
    if len(onward) != len(mates) or not 1 <= len(onward) <= MOST_HALVES:
        return False
    if not all([is_whole(behind) for behind in onward]):
        return False
    return all([mate is None or is_whole(mate) for mate in mates])


def broken(onward, mates):
    """The first broken half seam of two tuples as long as one another, or None where they make a skin."""
    taken = set()
    for half, behind in enumerate(onward):
        if not 0 <= behind < len(onward) or behind in taken:
            return half
        if not is_mated(mates, half):
            return half
        taken.add(behind)
    return None


def is_mated(mates, half):
    """Whether half has no mate, or has another half seam as its mate whose mate it is."""
    mate = mates[half]
    if mate is None:
        return True
    return 0 <= mate < len(mates) and mate != half and mates[mate] == half


def check_half(skin, half):
    """Refuse a number that is no half seam of the skin."""
    if not 0 <= half < len(skin[0]):
        raise NoHalf("the skin has no half seam of this number")
