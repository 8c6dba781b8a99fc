"""A desk, which is told rows of words and answers with texts."""

from halfseams.deeds import back_deed, foretold
from halfseams.errors import NoRow
from halfseams.forms import lead
from halfseams.marks import is_word
from halfseams.tailors import Tailor
from halfseams.texts import deed_in, deed_text, numbers_text, read_number, read_skin, skin_text
from halfseams.walks import patch_of, rim_of, round_knot

BARE_ROWS = ("undo", "redo", "skin", "marks", "deeds", "counts", "news")


class Desk:
    """A desk with a tailor of the skin that a text writes."""

    def __init__(self, text):
        self.tailor = Tailor(read_skin(text))

    def say(self, row):
        """Do what the row says; told is the answer."""
        match read_row(row):
            case ["do", deed]:
                self.tailor.do(deed)
            case ["mark", half, "-"]:
                self.tailor.mark(half, None)
            case ["mark", half, mark]:
                self.tailor.mark(half, mark)
            case ["undo"]:
                self.tailor.undo()
            case ["redo"]:
                self.tailor.redo()
            case asked:
                return answer(self.tailor, asked)
        return "ok"


def answer(tailor, asked):
    """The answer to a row that asks the tailor for something."""
    skin = tailor.skin()
    match asked:
        case ["skin"]:
            return skin_text(skin)
        case ["marks"]:
            return " ".join(["-" if mark is None else mark for mark in tailor.marks()])
        case ["deeds"]:
            return str(len(tailor.deeds()))
        case ["counts"]:
            return "; ".join([numbers_text(part) for part in tailor.counts()])
        case ["news"]:
            return numbers_text(tailor.news())
        case ["patch", half]:
            return numbers_text(patch_of(skin, half))
        case ["knot", half]:
            return numbers_text(round_knot(skin, half))
        case ["rim", half]:
            return numbers_text(rim_of(skin, half))
        case ["tell", deed]:
            return numbers_text(foretold(skin, deed))
        case ["back", deed]:
            return deed_text(back_deed(skin, deed))
        case ["alike", text]:
            return "no" if lead(skin, read_skin(text)) is None else "yes"


def read_row(row):
    """A tuple of the word of the row, which may be anything, and of what stands behind it; "do" goes with a deed."""
    found = found_in(row) if isinstance(row, str) else (None,)
    if None in found:
        raise NoRow("this is no row that a desk can be told")
    return found


def found_in(row):
    """The word of a text and what stands behind it, with None in the place of what can not be read."""
    if row in BARE_ROWS:
        return (row,)
    word, blank, rest = row.partition(" ")
    if word == "alike" and blank:
        return word, rest
    if word == "patch" or word == "knot" or word == "rim":
        return word, read_number(rest)
    if word == "tell" or word == "back":
        return word, deed_in(rest)
    if word == "mark":
        half, blank, mark = rest.partition(" ")
        return word, read_number(half), mark if mark == "-" or is_word(mark) else None
    return "do", deed_in(row)
