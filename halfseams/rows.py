"""Rows of turned seams that lead from one small skin of triangles to another."""

from halfseams.counts import parts, totals
from halfseams.cuts import turned
from halfseams.errors import Unfit
from halfseams.forms import told_form
from halfseams.walks import patch_of, patches, seams

MOST_PATCHES = 6


def fewest_row(one, other):
    """As few half seams as can be, turned one by one, that lead from the one skin to the other, or None."""
    check_fit(one)
    check_fit(other)
    # Turning changes no totals, so that nothing need be looked for where they differ.
    if totals(one) != totals(other):
        return None
    goal = told_form(other)
    return rows_from(one, goal).get(goal)


def forms_many(skin):
    """How many told forms there are to which rows lead from the skin."""
    check_fit(skin)
    return len(rows_from(skin, None))


def walked(skin, row):
    """The skin behind all these half seams, turned one by one."""
    behind = skin
    for half in row:
        behind = turned(behind, half)
    return behind


def check_fit(skin):
    """Refuse a skin that is not of one part, without rims, and of at most six patches of three."""
    lengths = [len(patch) for patch in patches(skin)]
    if len(lengths) > MOST_PATCHES or any([length != 3 for length in lengths]):
        raise Unfit(f"the skin is not of at most {MOST_PATCHES} patches of three half seams")
    if None in skin[1] or len(parts(skin)) != 1:
        raise Unfit("the skin has rims or several parts")


def rows_from(skin, goal):
    """A dict with a fewest row to each told form that is met, until the goal is among them, or there are no more."""
    rows = {told_form(skin): ()}
    reached = [(skin, ())]
    place = 0
    while place < len(reached) and goal not in rows:
        here, row = reached[place]
        for half in turnable(here):
            there = turned(here, half)
            form = told_form(there)
            if form not in rows:
                rows[form] = (*row, half)
                reached.append((there, rows[form]))
        place += 1
    return rows


def turnable(skin):
    """A list of one half seam of each seam between two patches."""
    return [half for half, mate in seams(skin) if mate not in patch_of(skin, half)]
