"""Tailors, who do deeds to a skin with marks, undo them and do them again."""

from halfseams.counts import changes, counts, totals
from halfseams.deeds import done
from halfseams.errors import NothingLeft, TooMany
from halfseams.marks import carried, check_mark
from halfseams.skins import check_half


class Tailor:
    """One who has a skin, at first with no marks."""

    def __init__(self, skin):
        # The skin and its marks at first, and behind each deed that stands.
        self.stages = [(skin, (None,) * len(skin[0]))]
        self.standing = []
        # What was undone, each deed with the skin and the marks behind it, the last one at the end.
        self.undone = []
        self.told_totals = totals(skin)

    def do(self, deed):
        """Do a deed, by which marks are carried."""
        skin, marks = self.stages[-1]
        self.put(deed, (done(skin, deed), carried(skin, marks, deed)))

    def mark(self, half, mark):
        """Put a mark, or None, to a half seam."""
        skin, marks = self.stages[-1]
        check_half(skin, half)
        check_mark(mark)
        self.put(("mark", half, mark), (skin, marks[:half] + (mark,) + marks[half + 1:]))

    def undo(self):
        """Undo what was done last."""
        if not self.standing:
            raise NothingLeft("no deed stands")
        self.undone.append((self.standing.pop(), self.stages.pop()))

    def redo(self):
        """Do again what was undone last."""
        if not self.undone:
            raise NothingLeft("no undone deed is left")
        deed, stage = self.undone.pop()
        self.standing.append(deed)
        self.stages.append(stage)

    def skin(self):
        """The skin behind all deeds that stand."""
        return self.stages[-1][0]

    def marks(self):
        """The marks of this skin."""
        return self.stages[-1][1]

    def deeds(self):
        """The deeds that stand, in order."""
        return tuple(self.standing)

    def counts(self):
        """The counts of each part of this skin."""
        return counts(self.skin())

    def news(self):
        """By how much the totals are more than when the news were told last, or the tailor was made."""
        now = totals(self.skin())
        told = changes(self.told_totals, now)
        self.told_totals = now
        return told

    def skin_behind(self, many):
        """The skin behind the first so many of the deeds that stand."""
        if not 0 <= many <= len(self.standing):
            raise TooMany("not so many deeds stand")
        return self.stages[many][0]

    def put(self, deed, stage):
        """Let the deed stand, behind which this is the skin with its marks."""
        self.standing.append(deed)
        self.stages.append(stage)
        self.undone.clear()
