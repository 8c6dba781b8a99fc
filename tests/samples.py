"""Skins for the tests: small ones told by hand, and many that are made."""

from itertools import permutations


class Told:
    """A skin with all that the document requires to be told of it, worked out by hand."""

    def __init__(self, name, skin, ahead, left, right, knots, seams, patches, rims):
        self.name = name
        self.skin = skin
        self.ahead = ahead
        self.left = left
        self.right = right
        self.knots = knots
        self.seams = seams
        self.patches = patches
        self.rims = rims


N = None

BY_HAND = (
    Told("one half seam at a rim",
         ((0,), (N,)),
         ahead=(0,), left=(N,), right=(N,),
         knots=((0,),), seams=((0,),), patches=((0,),), rims=((0,),)),
    Told("a triangle without mates",
         ((1, 2, 0), (N, N, N)),
         ahead=(2, 0, 1), left=(N, N, N), right=(N, N, N),
         knots=((0,), (1,), (2,)), seams=((0,), (1,), (2,)), patches=((0, 1, 2),), rims=((0, 1, 2),)),
    Told("a triangle that goes 0, 2, 1",
         ((2, 0, 1), (N, N, N)),
         ahead=(1, 2, 0), left=(N, N, N), right=(N, N, N),
         knots=((0,), (1,), (2,)), seams=((0,), (1,), (2,)), patches=((0, 2, 1),), rims=((0, 2, 1),)),
    Told("three patches of one, without mates",
         ((0, 1, 2), (N, N, N)),
         ahead=(0, 1, 2), left=(N, N, N), right=(N, N, N),
         knots=((0,), (1,), (2,)), seams=((0,), (1,), (2,)), patches=((0,), (1,), (2,)),
         rims=((0,), (1,), (2,))),
    Told("two patches of one, mates",
         ((0, 1), (1, 0)),
         ahead=(0, 1), left=(1, 0), right=(1, 0),
         knots=((0, 1),), seams=((0, 1),), patches=((0,), (1,)), rims=()),
    Told("one patch of two mates",
         ((1, 0), (1, 0)),
         ahead=(1, 0), left=(0, 1), right=(0, 1),
         knots=((0,), (1,)), seams=((0, 1),), patches=((0, 1),), rims=()),
    Told("a patch of three, two of it mates",
         ((1, 2, 0), (1, 0, N)),
         ahead=(2, 0, 1), left=(N, 1, 0), right=(2, 1, N),
         knots=((2, 0), (1,)), seams=((0, 1), (2,)), patches=((0, 1, 2),), rims=((2,),)),
    Told("two triangles with one seam",
         ((1, 2, 0, 4, 5, 3), (3, N, N, 0, N, N)),
         ahead=(2, 0, 1, 5, 3, 4), left=(N, 3, N, N, 0, N), right=(4, N, N, 1, N, N),
         knots=((4, 0), (1, 3), (2,), (5,)), seams=((0, 3), (1,), (2,), (4,), (5,)),
         patches=((0, 1, 2), (3, 4, 5)), rims=((1, 2, 4, 5),)),
    Told("a pillow of two triangles",
         ((1, 2, 0, 4, 5, 3), (3, 5, 4, 0, 2, 1)),
         ahead=(2, 0, 1, 5, 3, 4), left=(4, 3, 5, 1, 0, 2), right=(4, 3, 5, 1, 0, 2),
         knots=((0, 4), (1, 3), (2, 5)), seams=((0, 3), (1, 5), (2, 4)),
         patches=((0, 1, 2), (3, 4, 5)), rims=()),
    Told("a square with one handle",
         ((1, 2, 3, 0), (2, 3, 0, 1)),
         ahead=(3, 0, 1, 2), left=(1, 2, 3, 0), right=(3, 0, 1, 2),
         knots=((0, 1, 2, 3),), seams=((0, 2), (1, 3)), patches=((0, 1, 2, 3),), rims=()),
    Told("a tube of one square",
         ((1, 2, 3, 0), (N, 3, N, 1)),
         ahead=(3, 0, 1, 2), left=(1, N, 3, N), right=(N, 0, N, 2),
         knots=((0, 1), (2, 3)), seams=((0,), (1, 3), (2,)), patches=((0, 1, 2, 3),), rims=((0,), (2,))),
    Told("a tube of two squares",
         ((1, 2, 3, 0, 5, 6, 7, 4), (N, 7, N, 5, N, 3, N, 1)),
         ahead=(3, 0, 1, 2, 7, 4, 5, 6), left=(5, N, 7, N, 1, N, 3, N), right=(N, 4, N, 6, N, 0, N, 2),
         knots=((0, 5), (4, 1), (2, 7), (6, 3)), seams=((0,), (1, 7), (2,), (3, 5), (4,), (6,)),
         patches=((0, 1, 2, 3), (4, 5, 6, 7)), rims=((0, 4), (2, 6))),
    Told("a fan of three triangles",
         ((1, 2, 0, 4, 5, 3, 7, 8, 6), (5, N, N, 8, N, 0, N, N, 3)),
         ahead=(2, 0, 1, 5, 3, 4, 8, 6, 7),
         left=(N, 5, N, 0, 8, N, 3, N, N), right=(3, N, N, 6, N, 1, N, N, 4),
         knots=((6, 3, 0), (1, 5), (2,), (4, 8), (7,)),
         seams=((0, 5), (1,), (2,), (3, 8), (4,), (6,), (7,)),
         patches=((0, 1, 2), (3, 4, 5), (6, 7, 8)), rims=((1, 2, 6, 7, 4),)),
    Told("four triangles round a ball",
         ((1, 2, 0, 4, 5, 3, 7, 8, 6, 10, 11, 9), (8, 11, 3, 2, 10, 6, 5, 9, 0, 7, 4, 1)),
         ahead=(2, 0, 1, 5, 3, 4, 8, 6, 7, 11, 9, 10),
         left=(3, 8, 11, 6, 2, 10, 0, 5, 9, 1, 7, 4), right=(6, 9, 4, 0, 11, 7, 3, 10, 1, 8, 5, 2),
         knots=((0, 3, 6), (1, 8, 9), (2, 11, 4), (5, 10, 7)),
         seams=((0, 8), (1, 11), (2, 3), (4, 10), (5, 6), (7, 9)),
         patches=((0, 1, 2), (3, 4, 5), (6, 7, 8), (9, 10, 11)), rims=()),
    Told("two parts, woven into one another",
         ((2, 1, 4, 5, 0, 3), (N, N, N, 5, N, 3)),
         ahead=(4, 1, 0, 5, 2, 3), left=(N, N, N, 3, N, 5), right=(N, N, N, 3, N, 5),
         knots=((0,), (1,), (2,), (3,), (4,), (5,)), seams=((0,), (1,), (2,), (3, 5), (4,)),
         patches=((0, 2, 4), (1,), (3, 5)), rims=((0, 2, 4), (1,))),
)

LONE = BY_HAND[0].skin
TWO_SINGLES = BY_HAND[4].skin
PATCH_OF_MATES = BY_HAND[5].skin
PURSE = BY_HAND[6].skin
TWO_TRIANGLES = BY_HAND[7].skin
PILLOW = BY_HAND[8].skin
HANDLE = BY_HAND[9].skin
TUBE = BY_HAND[10].skin
TWO_SQUARES = BY_HAND[11].skin
BALL = BY_HAND[13].skin
FAN = BY_HAND[12].skin

# Of the ball without the seam of 0 and 8, when those above have come down.
BALL_MATES = (9, 2, 1, 8, 5, 4, 7, 6, 3, 0)


def all_matings(free):
    """All ways to give the half seams of a rising list mates or none, as dicts."""
    if not free:
        return [{}]
    first, rest = free[0], free[1:]
    found = [{first: None, **more} for more in all_matings(rest)]
    for mate in rest:
        others = [half for half in rest if half != mate]
        found.extend({first: mate, mate: first, **more} for more in all_matings(others))
    return found


def small_skins(most):
    """All skins of at most so many half seams."""
    for many in range(1, most + 1):
        matings = [tuple(mating[half] for half in range(many)) for mating in all_matings(list(range(many)))]
        for onward in permutations(range(many)):
            for mates in matings:
                yield onward, mates


def lengths_of(many, most):
    """All falling lists of lengths, none above most, that make so many."""
    if many == 0:
        return [[]]
    return [[first] + rest for first in range(min(many, most), 0, -1) for rest in lengths_of(many - first, first)]


def one_of_each(many):
    """Of all skins of so many half seams one at least of each that are alike."""
    matings = [tuple(mating[half] for half in range(many)) for mating in all_matings(list(range(many)))]
    for lengths in lengths_of(many, many):
        onward = side_by_side(*[ring(length) for length in lengths])[0]
        for mates in matings:
            yield onward, mates


def net(rows, columns, closed_down, closed_aside):
    """Squares in rows and columns; closed: the last row, or column, is sewn to the first one."""
    onward = []
    mates = []
    for row in range(rows):
        for column in range(columns):
            square = 4 * (row * columns + column)
            onward.extend([square + 1, square + 2, square + 3, square])
            for side, (down, aside) in enumerate(((-1, 0), (0, 1), (1, 0), (0, -1))):
                there, beside = row + down, column + aside
                if (closed_down or 0 <= there < rows) and (closed_aside or 0 <= beside < columns):
                    other = 4 * ((there % rows) * columns + beside % columns)
                    mates.append(other + (side + 2) % 4)
                else:
                    mates.append(None)
    return tuple(onward), tuple(mates)


def grid(rows, columns, closed):
    """Squares in rows and columns, closed both ways round or no way."""
    return net(rows, columns, closed, closed)


def ring(many):
    """One patch, no mates."""
    return tuple((half + 1) % many for half in range(many)), (None,) * many


def single_patches(many):
    """Patches of one half seam each, no mates."""
    return tuple(range(many)), (None,) * many


def opposite(many):
    """One patch of an even count of half seams, each mated with the one across."""
    return ring(many)[0], tuple((half + many // 2) % many for half in range(many))


def side_by_side(*skins):
    """One skin of the parts of all these, one behind the other."""
    onward = []
    mates = []
    for more_onward, more_mates in skins:
        first = len(onward)
        onward.extend(first + behind for behind in more_onward)
        mates.extend(None if mate is None else first + mate for mate in more_mates)
    return tuple(onward), tuple(mates)


def renumbered(skin, seed):
    """The skin with other numbers, in an order that hangs on the seed alone, and the tuple of the new numbers."""
    onward, mates = skin
    new = shuffled(range(len(onward)), seed)
    new_onward = [0] * len(new)
    new_mates = [None] * len(new)
    for half in range(len(new)):
        new_onward[new[half]] = new[onward[half]]
        new_mates[new[half]] = None if mates[half] is None else new[mates[half]]
    return (tuple(new_onward), tuple(new_mates)), tuple(new)


def shuffled(things, seed):
    """The things in an order that hangs on the seed alone."""
    things = list(things)
    for at in range(len(things) - 1, 0, -1):
        seed = (seed * 6364136223846793005 + 1442695040888963407) & (2 ** 64 - 1)
        other = (seed >> 33) % (at + 1)
        things[at], things[other] = things[other], things[at]
    return things


def mixed_skin(many, pairs, seed):
    """A skin of so many half seams, of which so many pairs are mates, in no order at all."""
    onward = tuple(shuffled(range(many), seed))
    mates = [None] * many
    order = shuffled(range(many), seed + 1)
    for pair in range(pairs):
        one, other = order[2 * pair], order[2 * pair + 1]
        mates[one], mates[other] = other, one
    return onward, tuple(mates)


def triangles(many, pairs, seed):
    """So many triangles, of whose half seams so many pairs are mates, numbered in no order."""
    halves = shuffled(range(3 * many), seed)
    onward = [0] * (3 * many)
    for at in range(0, 3 * many, 3):
        for step in range(3):
            onward[halves[at + step]] = halves[at + (step + 1) % 3]
    return tuple(onward), mixed_skin(3 * many, pairs, seed + 7)[1]


def large_skins():
    """Skins of 399 and 400 half seams of many makes."""
    found = [grid(10, 10, True), grid(10, 10, False), grid(1, 100, True), grid(100, 1, False),
             ring(400), single_patches(400), opposite(400)]
    for seed, pairs in enumerate((0, 1, 50, 150, 190, 199, 200)):
        found.append(mixed_skin(400, pairs, seed))
    for seed, pairs in enumerate((20, 100, 199)):
        found.append(triangles(133, pairs, seed))
    return found


def middle_skins():
    """Skins of some 10 to 60 half seams."""
    found = [grid(2, 3, True), grid(3, 3, False), grid(1, 5, True), ring(31), opposite(22)]
    for seed in range(60):
        many = 10 + seed % 41
        found.append(mixed_skin(many, (seed * 7) % (many // 2 + 1), seed))
        found.append(triangles(4 + seed % 16, seed % (3 * (4 + seed % 16) // 2 + 1), seed))
    return found
