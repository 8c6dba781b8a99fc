"""Marks of half seams, and how they are carried over deeds."""

from halfseams.deeds import done, taken_by
from halfseams.errors import NoMarks
from halfseams.walks import all_halves, seam_of

LETTERS = "abcdefghijklmnopqrstuvwxyz"
MOST_LETTERS = 8


def is_word(thing):
    """Whether thing, which may be anything, is a text of one to eight small letters."""
    if not isinstance(thing, str) or not 1 <= len(thing) <= MOST_LETTERS:
        return False
    return all([sign in LETTERS for sign in thing])


def check_mark(thing):
    """Refuse what is neither such a text nor None."""
    if thing is not None and not is_word(thing):
        raise NoMarks(f"a mark is a text of one to {MOST_LETTERS} small letters, or None")


def check_marks(skin, thing):
    """Refuse what are no marks of the skin."""
    if not isinstance(thing, tuple) or len(thing) != len(skin[0]):
        raise NoMarks("the marks of a skin are a tuple with one for each half seam")
    for mark in thing:
        check_mark(mark)


def carried(skin, marks, deed):
    """The marks of the skin behind the deed."""
    check_marks(skin, marks)
    left = done(skin, deed)
    taken = taken_by(skin, deed)
    kept = [marks[half] for half in all_halves(skin) if half not in taken]
    if deed[0] == "split":
        kept.extend([marks[half] for half in seam_of(skin, deed[1])])
    new = len(left[0]) - len(kept)
    return tuple(kept + [None] * new)
