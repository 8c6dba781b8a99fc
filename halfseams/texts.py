"""Skins and deeds, written as texts and read again."""

from halfseams.deeds import is_deed
from halfseams.errors import NoText
from halfseams.skins import is_skin
from halfseams.walks import patches, seams

FIGURES = "0123456789"
MOST_FIGURES = 9


def numbers_text(numbers):
    """The numbers with a blank between."""
    return " ".join([str(number) for number in numbers])


def skin_text(skin):
    """A skin, written by its patches and mates."""
    by_patches = "; ".join([numbers_text(patch) for patch in patches(skin)])
    pairs = [f"{seam[0]}-{seam[1]}" for seam in seams(skin) if len(seam) == 2]
    by_mates = " ".join(pairs) if pairs else "-"
    return f"{by_patches} | {by_mates}"


def deed_text(deed):
    """A deed, written by its word and numbers."""
    word, *numbers = deed
    return f"{word} {numbers_text(numbers)}"


def read_skin(text):
    """The skin that a text writes; the text may be anything."""
    skin = skin_in(text) if isinstance(text, str) else None
    # A skin can be made out in texts, too, that write it in another way than it is written.
    if skin is None or skin_text(skin) != text:
        raise NoText("this writes no skin")
    return skin


def read_deed(text):
    """The deed that a text writes; the text may be anything."""
    deed = deed_in(text) if isinstance(text, str) else None
    if deed is None:
        raise NoText("this writes no deed")
    return deed


def read_number(text):
    """The number that a text writes by one to nine figures, or None."""
    if not 1 <= len(text) <= MOST_FIGURES or not all([sign in FIGURES for sign in text]):
        return None
    if text[0] == "0" and text != "0":
        return None
    return int(text)


def deed_in(text):
    """The deed that a text writes, or None."""
    words = text.split(" ")
    numbers = [read_number(word) for word in words[1:]]
    deed = (words[0], *numbers)
    # A number that could not be read is None, with which nothing is a deed.
    return deed if is_deed(deed) else None


def skin_in(text):
    """The skin that can be made out in a text, or None."""
    by_patches, bar, by_mates = text.partition(" | ")
    onward = onward_in(by_patches)
    if onward is None:
        return None
    mates = mates_in(by_mates, len(onward))
    skin = (onward, mates)
    return skin if is_skin(skin) else None


def onward_in(text):
    """What comes behind each half seam in the patches that a text writes, or None."""
    rows = [[read_number(one) for one in patch.split(" ")] for patch in text.split("; ")]
    numbers = [number for row in rows for number in row]
    if None in numbers or sorted(numbers) != list(range(len(numbers))):
        return None
    onward = [0] * len(numbers)
    for row in rows:
        for number, behind in zip(row, row[1:] + row[:1]):
            onward[number] = behind
    return tuple(onward)


def mates_in(text, many):
    """The mates of so many half seams that a text writes, or None."""
    mates = [None] * many
    pairs = [] if text == "-" else text.split(" ")
    for pair in pairs:
        first, dash, second = pair.partition("-")
        one, other = read_number(first), read_number(second)
        if one is None or other is None or max(one, other) >= many:
            return None
        mates[one] = other
        mates[other] = one
    return tuple(mates)
