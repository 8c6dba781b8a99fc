"""Patches told by knots, for the tests: known skins, and plain ones of many makes."""

from itertools import combinations

from tests.samples import shuffled

BALL_ROWS = ((0, 1, 2), (0, 2, 3), (0, 3, 1), (1, 3, 2))
CUBE_ROWS = ((0, 3, 2, 1), (4, 5, 6, 7), (0, 1, 5, 4), (1, 2, 6, 5), (2, 3, 7, 6), (3, 0, 4, 7))
# Each two of seven knots have a seam; it has one handle.
SEVEN_ROWS = tuple(row for at in range(7) for row in (
    (at, (at + 1) % 7, (at + 3) % 7), (at, (at + 3) % 7, (at + 2) % 7)))


def double_tent(many):
    """Triangles from a ring of so many knots to one knot above and one below."""
    rows = []
    for at in range(many):
        there = (at + 1) % many
        rows.extend([(many, at, there), (many + 1, there, at)])
    return tuple(rows)


def twenty_rows():
    """Twenty triangles round a ball, five at each knot."""
    rows = []
    for at in range(5):
        upper, next_upper = 1 + at, 1 + (at + 1) % 5
        lower, next_lower = upper + 5, next_upper + 5
        rows.extend([(0, upper, next_upper), (next_upper, upper, lower), (lower, next_lower, next_upper),
                     (11, next_lower, lower)])
    return tuple(rows)


def halved_net(rows, columns, closed_down, closed_aside):
    """A net of squares, each cut into two triangles."""
    down = rows if closed_down else rows + 1
    aside = columns if closed_aside else columns + 1
    told = []
    for row in range(rows):
        for column in range(columns):
            here, beside = row * aside + column, row * aside + (column + 1) % aside
            below, across = (row + 1) % down * aside + column, (row + 1) % down * aside + (column + 1) % aside
            told.extend([(here, beside, across), (here, across, below)])
    return tuple(told)


def some_rows(many_knots, seed):
    """Triangles on so many knots, as many as fit in an order that hangs on the seed: no seam is led along twice.

    Their knots may still be torn, so that they make no skin."""
    ways = set()
    rows = []
    choices = [three for three in combinations(range(many_knots), 3)]
    for at, (a, b, c) in enumerate(shuffled(choices, seed)):
        row = (a, b, c) if (seed + at) % 3 else (a, c, b)
        round_it = set(zip(row, row[1:] + row[:1]))
        back = {(end, start) for start, end in round_it}
        # Triangles that touch those there by a seam tear fewer knots.
        if not ways & round_it and (not rows or ways & back):
            ways |= round_it
            rows.append(row)
        if len(rows) > 3 + seed % 9:
            break
    return tuple(rows)
