"""The parts of a skin, and what there is of each kind in them."""

from halfseams.walks import all_halves, each_once, knots, patches, rims, seams


def parts(skin):
    """The half seams of each part, rising, by their least half seams."""
    return each_once(all_halves(skin), lambda half: tuple(sorted(reached_from(skin, half))))


def reached_from(skin, half):
    """A list of all half seams of the part of half: of each in turn what comes behind it, then its mate, if new."""
    onward, mates = skin
    reached = [half]
    met = {half}
    at = 0
    while at < len(reached):
        for other in (onward[reached[at]], mates[reached[at]]):
            if other is not None and other not in met:
                met.add(other)
                reached.append(other)
        at += 1
    return reached


def counts(skin):
    """Of each part the tuple (knots, seams, patches, rims, handles)."""
    all_parts = parts(skin)
    part_at = [0] * len(skin[0])
    for place, part in enumerate(all_parts):
        for half in part:
            part_at[half] = place
    rows = [[0, 0, 0, 0] for part in all_parts]
    for kind, walks in enumerate((knots(skin), seams(skin), patches(skin), rims(skin))):
        for walk in walks:
            rows[part_at[walk[0]]][kind] += 1
    return tuple([(*row, handles_of(row)) for row in rows])


def handles_of(row):
    """The handles of a part that has so many knots, seams, patches and rims."""
    many_knots, many_seams, many_patches, many_rims = row
    return (2 - many_knots + many_seams - many_patches - many_rims) // 2


def totals(skin):
    """The tuple (knots, seams, patches, rims, handles, parts) of the whole skin."""
    rows = counts(skin)
    sums = [sum(column) for column in zip(*rows)]
    return (*sums, len(rows))


def changes(first, then):
    """By how much each number is more then than it was first."""
    return tuple([more - less for less, more in zip(first, then)])
