"""The errors of the package: one for each kind of failure."""


class TellError(ValueError):
    """What all errors of the package have in common."""


class BadClaim(TellError):
    """Not a claim, or not a world of one."""


class BadScene(TellError):
    """Not a scene: `part` is the part that is wrong, or None for an argument that is no Scene at all."""

    def __init__(self, part=None):
        super().__init__(f"not a scene (wrong part: {part})")
        self.part = part


class BadName(TellError):
    """Not the name of a sentence or of a person."""


class BadSet(TellError):
    """Not a tuple of different names of sentences in the order of the scene."""


class BadChain(TellError):
    """Not a tuple of 1 to 3 names of people."""


class BadWorlds(TellError):
    """Not worlds of the scene in the form of a circle or a path."""


class BadGroup(TellError):
    """Not a group of people, or not a list of speakers."""


class SaidBefore(TellError):
    """A sentence that has been said is said again."""


class NothingSaid(TellError):
    """There is no step that could be undone."""


class BadText(TellError):
    """Not the text of a scene: `row` is the index of the line at fault."""

    def __init__(self, row=0):
        super().__init__(f"not the text of a scene (row {row})")
        self.row = row
