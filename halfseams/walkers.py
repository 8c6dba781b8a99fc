"""Walkers, who go from half seam to half seam of a skin, and back."""

from halfseams.errors import NothingLeft, TooMany
from halfseams.skins import check_half
from halfseams.walks import is_at_rim, patch_of, round_knot

MOST_TIMES = 10 ** 30


def check_many(many):
    """Refuse a count of times beyond its bounds."""
    if not 0 <= many <= MOST_TIMES:
        raise TooMany("a walker goes 0 to 10 ** 30 times")


class Walker:
    """One who stands at a half seam of a skin."""

    def __init__(self, skin, half):
        check_half(skin, half)
        self.ground = skin
        self.place = half
        # Where each deed that stands began.
        self.trail = []

    def on(self, many):
        """Go on round the patch so many times; told is how many."""
        return self.go_along(many, 1)

    def ahead(self, many):
        """Go ahead round the patch so many times; told is how many."""
        return self.go_along(many, -1)

    def over(self):
        """Go over to the mate; told is 1, or 0 where there is none."""
        mate = self.ground[1][self.place]
        if mate is None:
            self.go_to(self.place)
            return 0
        self.go_to(mate)
        return 1

    def left(self, many):
        """Go left round the knot so many times, or as far as one can; told is how many."""
        return self.go_round(many, 1)

    def right(self, many):
        """Go right round the knot so many times, or as far as one can; told is how many."""
        return self.go_round(many, -1)

    def back(self):
        """Take back what was done last."""
        if not self.trail:
            raise NothingLeft("the walker did nothing that stands")
        self.place = self.trail.pop()

    def at(self):
        """The half seam where the walker stands."""
        return self.place

    def deeds(self):
        """How many deeds stand."""
        return len(self.trail)

    def go_along(self, many, way):
        """Go so many times round the patch: on where way is 1, ahead where it is -1."""
        check_many(many)
        patch = patch_of(self.ground, self.place)
        self.go_to(patch[way * many % len(patch)])
        return many

    def go_round(self, many, way):
        """Go so many times round the knot, or to its end: left where way is 1, right where it is -1."""
        check_many(many)
        knot = round_knot(self.ground, self.place)
        start = knot.index(self.place)
        went = many
        if is_at_rim(self.ground, self.place):
            went = min(many, len(knot) - 1 - start if way == 1 else start)
        self.go_to(knot[(start + way * went) % len(knot)])
        return went

    def go_to(self, half):
        """Stand at half, as one deed more."""
        self.trail.append(self.place)
        self.place = half
