"""The document's words on counts and deeds, done another way than by the program: with patches as lists of labels.

What the program tells is held against what is told here."""

WORDS_OF_ONE = ("split", "merge", "join", "turn", "unturn", "fold", "puff", "draw", "grow", "cap", "open", "rip")
WORDS_OF_TWO = ("cut", "part", "sew")


def classes(many, links):
    """The rising tuples of what hangs together by the links, by their least members."""
    known = list(range(many))
    for one, other in links:
        old, new = known[other], known[one]
        if old != new:
            known = [new if mark == old else mark for mark in known]
    found = {}
    for half, mark in enumerate(known):
        found.setdefault(mark, []).append(half)
    return tuple(sorted(tuple(members) for members in found.values()))


class Cloth:
    """A skin as a list of lists, its patches, and a dict of mates."""

    def __init__(self, skin):
        onward, mates = skin
        self.many = len(onward)
        self.found_knots = None
        self.found_parts = None
        self.mates = dict(enumerate(mates))
        self.patches = []
        left = set(range(self.many))
        while left:
            at = min(left)
            patch = []
            while at in left:
                left.remove(at)
                patch.append(at)
                at = onward[at]
            self.patches.append(patch)

    def skin(self):
        """The skin, those above having come down in order."""
        labels = sorted(self.mates)
        number = {label: at for at, label in enumerate(labels)}
        number[None] = None
        onward = {label: patch[(at + 1) % len(patch)] for patch in self.patches for at, label in enumerate(patch)}
        return (tuple(number[onward[label]] for label in labels),
                tuple(number[self.mates[label]] for label in labels))

    def patch(self, half):
        """The patch of half, as a list from half on."""
        patch = next(patch for patch in self.patches if half in patch)
        at = patch.index(half)
        return patch[at:] + patch[:at]

    def behind(self, half):
        return (self.patch(half) * 2)[1]

    def ahead(self, half):
        return self.patch(half)[-1]

    def knots(self):
        """The sets of half seams that have one knot; asked only ahead of a deed."""
        if self.found_knots is None:
            left = [(half, self.mates[self.ahead(half)]) for half in range(self.many)]
            links = [(half, other) for half, other in left if other is not None]
            self.found_knots = [set(knot) for knot in classes(self.many, links)]
        return self.found_knots

    def knot(self, half):
        return next(knot for knot in self.knots() if half in knot)

    def at_rim(self, half):
        return any(self.mates[one] is None for one in self.knot(half))

    def along(self, half):
        """What comes behind half along its rim."""
        return next(one for one in self.knot(self.behind(half)) if self.mates[one] is None)

    def rim(self, half):
        rim = [half]
        while self.along(rim[-1]) != half:
            rim.append(self.along(rim[-1]))
        return rim

    def parts(self):
        """The rising tuples of half seams that are of one part; asked only ahead of a deed."""
        if self.found_parts is None:
            links = [(half, self.behind(half)) for half in range(self.many)]
            links += [(half, mate) for half, mate in self.mates.items() if mate is not None]
            self.found_parts = classes(self.many, links)
        return self.found_parts

    def counts(self):
        mateless = [half for half in range(self.many) if self.mates[half] is None]
        ends = {}
        for knot in self.knots():
            for one in knot & set(mateless):
                for half in knot:
                    ends[half] = one
        rims = [rim for rim in classes(self.many, [(half, ends[self.behind(half)]) for half in mateless])
                if rim[0] in mateless]
        seams = [half for half, mate in self.mates.items() if mate is None or half < mate]
        told = []
        for part in self.parts():
            knots_here = sum(1 for knot in self.knots() if min(knot) in part)
            seams_here = sum(1 for half in seams if half in part)
            patches_here = sum(1 for patch in self.patches if patch[0] in part)
            rims_here = sum(1 for rim in rims if rim[0] in part)
            doubled = 2 - knots_here + seams_here - patches_here - rims_here
            if doubled % 2:
                raise AssertionError("handles are no whole number")
            told.append((knots_here, seams_here, patches_here, rims_here, doubled // 2))
        return tuple(told)

    def totals(self):
        counts = self.counts()
        return tuple(sum(row[kind] for row in counts) for kind in range(5)) + (len(counts),)

    def put_behind(self, half, label):
        patch = next(patch for patch in self.patches if half in patch)
        patch.insert(patch.index(half) + 1, label)

    def put_ahead(self, half, label):
        patch = next(patch for patch in self.patches if half in patch)
        patch.insert(patch.index(half), label)

    def take(self, labels):
        self.patches = [[one for one in patch if one not in labels] for patch in self.patches]
        self.patches = [patch for patch in self.patches if patch]
        for label in labels:
            del self.mates[label]

    def mate_up(self, one, other):
        for half, mate in ((one, other), (other, one)):
            if half is not None:
                self.mates[half] = mate

    def exchange(self, old, new):
        """Put the new patches in the place of those to which the first ones of old belong."""
        self.patches = [patch for patch in self.patches if not set(old) & set(patch)] + new

    # The deeds.

    def split(self, h):
        n, m = self.many, self.mates[h]
        self.put_behind(h, n)
        if m is None:
            self.mates[n] = None
        else:
            self.put_behind(m, n + 1)
            self.mate_up(h, n + 1)
            self.mate_up(n, m)

    def merge(self, h):
        g, m = self.behind(h), self.mates[h]
        far = self.mates[g]
        self.take([g] if m is None else [g, m])
        self.mates[h] = None
        self.mate_up(h, far)

    def cut(self, h, k):
        n = self.many
        patch = self.patch(h)
        if h == k:
            self.exchange([h], [[n], [n + 1] + patch])
        else:
            at = patch.index(k)
            self.exchange([h], [[n] + patch[:at], [n + 1] + patch[at:]])
        self.mate_up(n, n + 1)

    def join(self, h):
        m = self.mates[h]
        self.exchange([h, m], [[h, m] + self.patch(h)[1:] + self.patch(m)[1:]])
        self.take([h, m])

    def turn(self, h):
        (h, a, b), (m, c, d) = self.patch(h), self.patch(self.mates[h])
        self.exchange([h, m], [[h, b, c], [m, d, a]])

    def unturn(self, h):
        (h, b, c), (m, d, a) = self.patch(h), self.patch(self.mates[h])
        self.exchange([h, m], [[h, a, b], [m, c, d]])

    def fold(self, h):
        g = self.behind(h)
        one, other = self.mates[h], self.mates[g]
        self.take([h, g])
        self.mate_up(one, other)

    def puff(self, h):
        n, m = self.many, self.mates[h]
        self.patches.append([n, n + 1])
        self.mate_up(n, h)
        self.mates[n + 1] = None
        self.mate_up(n + 1, m)

    def draw(self, h):
        self.take([h] if self.mates[h] is None else [h, self.mates[h]])

    def part(self, h, k):
        n = self.many
        self.put_ahead(h, n)
        self.put_ahead(k, n + 1)
        self.mate_up(n, n + 1)

    def grow(self, h):
        self.put_ahead(h, self.many)
        self.mates[self.many] = None

    def cap(self, h):
        n = self.many
        rim = self.rim(h)
        for at, half in enumerate(rim):
            self.mate_up(half, n + at)
        self.patches.append([n + at for at in range(len(rim))][::-1])

    def open_up(self, h):
        patch = self.patch(h)
        mates = [self.mates[one] for one in patch]
        self.take(patch)
        for mate in mates:
            self.mates[mate] = None

    def sew(self, h, k):
        self.mate_up(h, k)

    def rip(self, h):
        m = self.mates[h]
        self.mates[h] = self.mates[m] = None

    # The refusals: None, the name of a class, or the word of Harm.

    def refused(self, word, *numbers):
        if any(number not in range(self.many) for number in numbers):
            return "NoHalf"
        return getattr(self, "refused_" + word)(*numbers) or self.refused_room(word, *numbers)

    def refused_room(self, word, h, *rest):
        if word == "split":
            new = 1 if self.mates[h] is None else 2
        elif word == "cap":
            new = len(self.rim(h))
        else:
            new = {"cut": 2, "puff": 2, "part": 2, "grow": 1}.get(word, 0)
        return "TooMany" if self.many + new > 400 else None

    def refused_split(self, h):
        return None

    def refused_merge(self, h):
        g, m = self.behind(h), self.mates[h]
        far = self.mates[g]
        if g != h and g != m:
            if m is None and far is None:
                return None
            if m is not None and far is not None and m == self.behind(far):
                return None
        return "knot"

    def refused_cut(self, h, k):
        return None if k in self.patch(h) else "Unlike"

    def refused_join(self, h):
        m = self.mates[h]
        if m is None:
            return "rim"
        if m in self.patch(h):
            return "one"
        return "last" if self.patch(h) + self.patch(m) == [h, m] else None

    def refused_turn(self, h):
        m = self.mates[h]
        if m is None:
            return "rim"
        if m in self.patch(h):
            return "one"
        return None if len(self.patch(h)) == len(self.patch(m)) == 3 else "three"

    refused_unturn = refused_turn

    def refused_fold(self, h):
        if len(self.patch(h)) != 2:
            return "two"
        g = self.behind(h)
        return "last" if self.mates[h] == g or self.mates[h] == self.mates[g] else None

    def refused_puff(self, h):
        return None

    def refused_draw(self, h):
        m, end = self.mates[h], self.behind(h)
        if end in self.knot(h):
            return "loop"
        if m is not None and self.at_rim(h) and self.at_rim(end):
            return "rims"
        part = next(part for part in self.parts() if h in part)
        return "last" if set(part) <= {h, m} else None

    def refused_part(self, h, k):
        return None if k in self.knot(h) else "Unlike"

    def refused_grow(self, h):
        return None if self.at_rim(h) else "inner"

    def refused_cap(self, h):
        return None if self.mates[h] is None else "NoRim"

    def refused_open(self, h):
        patch = self.patch(h)
        if any(self.mates[one] is None for one in patch):
            return "rim"
        if any(self.mates[one] in patch for one in patch):
            return "one"
        if any(self.at_rim(one) or len(self.knot(one) & set(patch)) > 1 for one in patch):
            return "knot"
        return None

    def refused_sew(self, h, k):
        if self.mates[h] is not None or self.mates[k] is not None:
            return "NoRim"
        return "Unlike" if h == k else None

    def refused_rip(self, h):
        return "rim" if self.mates[h] is None else None


def cloth_behind(skin, deed):
    """The cloth behind a deed that is not refused."""
    cloth = Cloth(skin)
    word = "open_up" if deed[0] == "open" else deed[0]
    getattr(cloth, word)(*deed[1:])
    return cloth


def behind(skin, deed):
    """The skin behind a deed that is not refused."""
    return cloth_behind(skin, deed).skin()


def labels_behind(skin, deed):
    """Which half seam each one behind the deed was ahead of it, in order; new ones from the count of half seams on."""
    return sorted(cloth_behind(skin, deed).mates)


def totals_of(skin):
    return Cloth(skin).totals()


def all_deeds(many, words=WORDS_OF_ONE + WORDS_OF_TWO):
    """All deeds of these words with half seams from 0 on, fewer than so many."""
    for word in words:
        for half in range(many):
            if word in WORDS_OF_TWO:
                for other in range(many):
                    yield word, half, other
            else:
                yield word, half
