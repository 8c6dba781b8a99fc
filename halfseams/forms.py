"""Forms of skins, by which alike ones are known, and how they lead to one another."""

from halfseams.counts import parts, reached_from
from halfseams.skins import check_half
from halfseams.walks import all_ahead, all_halves


def form_from(skin, half):
    """The onward and the mates of the part of half, in numbers that are given from half on."""
    check_half(skin, half)
    onward, mates = skin
    order = reached_from(skin, half)
    number = {one: at for at, one in enumerate(order)}
    number[None] = -1
    return tuple([number[onward[one]] for one in order]), tuple([number[mates[one]] for one in order])


def told_form(skin):
    """The least forms of all parts, sorted."""
    return tuple(sorted([min(forms_of(skin, part)) for part in parts(skin)]))


def forms_of(skin, part):
    """A list of the forms from each half seam of the part."""
    return [form_from(skin, half) for half in part]


def lead(one, other):
    """The least tuple that leads from the one skin to the other, or None where they are not alike."""
    if len(one[0]) != len(other[0]):
        return None
    went = {}
    left = all_halves(other)
    for part in parts(one):
        form = form_from(one, part[0])
        # From the least half seam of a part on, its lead hangs on where that one goes.
        goal = first_with_form(other, left, form)
        if goal is None:
            return None
        reached = reached_from(other, goal)
        for half, there in zip(reached_from(one, part[0]), reached):
            went[half] = there
        left = [half for half in left if half not in reached]
    return tuple([went[half] for half in all_halves(one)])


def first_with_form(skin, halves, form):
    """The first of these half seams from which the skin has the form, or None."""
    for half in halves:
        if form_from(skin, half) == form:
            return half
    return None


def leads_many(skin):
    """How many tuples lead from the skin to itself."""
    many = 1
    met = {}
    for part in parts(skin):
        forms = forms_of(skin, part)
        least = min(forms)
        met[least] = met.get(least, 0) + 1
        # A part goes to itself as often as the least form comes, and may change places with those alike.
        many *= forms.count(least) * met[least]
    return many


def mirrored(skin):
    """The skin in which what came ahead comes behind."""
    return tuple(all_ahead(skin)), skin[1]
