"""The errors of the package: one class for each kind of failure."""

# The messages never show what was passed: it may be of any size, and writing it out may fail.


class FloorError(ValueError):
    """The base of all errors of this package."""


class BadNumber(FloorError):
    """What was passed is not an integer from 0 on."""

    def __init__(self, value):
        super().__init__("a number is an integer from 0 on")
        self.value = value


class BadPower(FloorError):
    """What was passed is not one of the possible powers."""

    def __init__(self, value):
        super().__init__("this is not one of the possible powers")
        self.value = value


class BadLoop(FloorError):
    """A part of a loop is not so; word is the name of the part."""

    def __init__(self, word):
        super().__init__("a part of the loop is not so")
        self.word = word


class BadStart(FloorError):
    """What was passed is not a possible start."""

    def __init__(self, value):
        super().__init__("this is not a possible start")
        self.value = value


class BadField(FloorError):
    """What was passed is not a field of a loop."""

    def __init__(self, field):
        super().__init__("this is not a field of a loop")
        self.field = field


class BadGuesses(FloorError):
    """What was passed is not a list of at least two integers from 1 on."""


class BadBeginning(FloorError):
    """A part of a beginning is not so; word is the name of the part."""

    def __init__(self, word):
        super().__init__("a part of the beginning is not so")
        self.word = word


class BadSought(FloorError):
    """A part of a thing that is sought is not so; word is the name of the part."""

    def __init__(self, word):
        super().__init__("a part of what is sought is not so")
        self.word = word


class BadBracket(FloorError):
    """What was passed are not two integers, 0 <= lo <= hi."""


class BadKind(FloorError):
    """What was passed is not a kind of bracket."""

    def __init__(self, value):
        super().__init__("a kind of bracket is closed or open")
        self.value = value


class BadText(FloorError):
    """What was passed is not the text of a loop."""


class UnlikePowers(FloorError):
    """Two loops are not of one power."""


class UnlikeSteps(FloorError):
    """Two loops do not have the same step."""


class NoGuess(FloorError):
    """A round would divide by nought."""
