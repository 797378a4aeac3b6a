"""The refusals. None stands under another one, but all under HeightError."""


class HeightError(ValueError):
    """Any refusal."""


class NoFraction(HeightError):
    """No fraction is made of what was handed in."""


class TooMany(HeightError):
    """There are more things than are listed."""


class TooFar(HeightError):
    """More is asked for than what was handed in reaches to."""


class NoNumber(HeightError):
    """No way of the length has the number."""


class NoWeights(HeightError):
    """No weights are made of what was handed in."""


class NoSeries(HeightError):
    """The bottom has no number, or nought, at the power 0."""


class NoMoments(HeightError):
    """The list is none from which weights are told back."""


class NoFamily(HeightError):
    """The order and the ways are no family."""


class NoMeeting(HeightError):
    """No two ways of the family meet."""


class NoThing(HeightError):
    """What was handed in is no thing of the kind."""


class NoLine(HeightError):
    """The line is none that a desk knows."""


class NoText(HeightError):
    """The text can't be read; part is the number of its part that bars it."""

    def __init__(self, part):
        HeightError.__init__(self, f"can't be read at part {part}")
        self.part = part


class NoWay(HeightError):
    """The text is no way; at is the place that bars it."""

    def __init__(self, at):
        HeightError.__init__(self, f"no way at place {at}")
        self.at = at


class TooHigh(HeightError):
    """A step has no weight; height is the one from which it goes."""

    def __init__(self, height):
        HeightError.__init__(self, f"no weight for a step at height {height}")
        self.height = height


class NoHistory(HeightError):
    """The steps are no history; at is the place that bars it."""

    def __init__(self, at):
        HeightError.__init__(self, f"no history at place {at}")
        self.at = at


class NoCount(HeightError):
    """The kind has no count of that name."""

    def __init__(self, name):
        HeightError.__init__(self, f"no count is called {name!r}")
        self.name = name


class NoName(HeightError):
    """Nothing is kept by that name."""

    def __init__(self, name):
        HeightError.__init__(self, f"nothing is kept by the name {name!r}")
        self.name = name
