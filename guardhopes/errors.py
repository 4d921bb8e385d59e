"""The errors of the package: three base classes, and under each one its kinds of failure.

Each class stores its attribute itself, since none may belong to a class beside its base class.
"""


class BadValue(ValueError):
    """A value that was passed is not right."""


class InvalidText(BadValue):
    """No text of what is to be read."""

    def __init__(self, given):
        self.given = given


class InvalidLetters(BadValue):
    """No letters of a machine."""

    def __init__(self, given):
        self.given = given


class InvalidWord(BadValue):
    """No word of the machine."""

    def __init__(self, given):
        self.given = given


class InvalidLasso(BadValue):
    """No lasso of the machine."""

    def __init__(self, given):
        self.given = given


class InvalidVerdict(BadValue):
    """None of the words that can be wanted."""

    def __init__(self, given):
        self.given = given


class InvalidName(BadValue):
    """No name."""

    def __init__(self, given):
        self.given = given


class InvalidChange(BadValue):
    """No change of the machine."""

    def __init__(self, given):
        self.given = given


class InvalidDemand(BadValue):
    """No demand."""

    def __init__(self, given):
        self.given = given


class InvalidIndex(BadValue):
    """No index of what is there."""

    def __init__(self, given):
        self.given = given


class NotAMachine(BadValue):
    """No Machine."""

    def __init__(self, given):
        self.given = given


class OtherLetters(BadValue):
    """A machine whose letters are not those of the one ahead of it."""

    def __init__(self, given):
        self.given = given


class InvalidStates(BadValue):
    """No states of a machine; index tells the first wrong one."""

    def __init__(self, index):
        self.index = index


class InvalidChanges(BadValue):
    """No changes; index tells the first wrong one."""

    def __init__(self, index):
        self.index = index


class InvalidDemands(BadValue):
    """No demands; index tells the first wrong one."""

    def __init__(self, index):
        self.index = index


class BadName(LookupError):
    """A name does not stand for what it has to."""


class UnknownName(BadName):
    """There is nothing under this name."""

    def __init__(self, given):
        self.given = given


class InUse(BadName):
    """The demand at the index needs what stands under this name."""

    def __init__(self, index):
        self.index = index


class NoAnswer(ArithmeticError):
    """What was asked for cannot be done."""


class NothingToUndo(NoAnswer):
    """There is nothing that could be taken back."""


class TooLong(NoAnswer):
    """There would be more letters than the most that are heard."""

    def __init__(self, most):
        self.most = most


class Broken(NoAnswer):
    """The demand at the index would not hold."""

    def __init__(self, index):
        self.index = index
