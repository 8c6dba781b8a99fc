"""The refusals, each a class of its own straight under SkinError."""


class SkinError(ValueError):
    """Any refusal."""


class NoHalf(SkinError):
    """A number is no half seam of the skin."""


class NoRim(SkinError):
    """A half seam that should lie at a rim has a mate."""


class Unlike(SkinError):
    """Two half seams do not stand to one another as they should."""


class TooMany(SkinError):
    """A count lies beyond its bounds."""


class NoPlain(SkinError):
    """The skin is not plain."""


class NoMarks(SkinError):
    """Something is no mark, or no marks of the skin."""


class NothingLeft(SkinError):
    """There is nothing left to take back or to do again."""


class Unfit(SkinError):
    """A skin is not of the kind between which rows of turned seams are looked for."""


class NoText(SkinError):
    """Something is not the text of a skin or of a deed."""


class NoRow(SkinError):
    """Something is no row that a desk can be told."""


class NoSkin(SkinError):
    """What should be a skin is none; half is its first broken half seam."""

    def __init__(self, half):
        super().__init__(f"no skin: half seam {half} is broken")
        self.half = half


class Harm(SkinError):
    """A deed would harm the skin; word says how."""

    def __init__(self, word):
        super().__init__(f"the deed would do harm: {word}")
        self.word = word
