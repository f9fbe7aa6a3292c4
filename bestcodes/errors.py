"""The errors of the package.

The messages are literal: a field may be any value, also one that has no text.
"""


class CodeError(ValueError):
    """What every error of the package is."""


class BadCode(CodeError):
    """A state of a code or of a shape is not as it must be."""

    def __init__(self, state):
        CodeError.__init__(self, "a state is not as it must be")
        self.state = state


class BadValue(CodeError):
    """A letter is no value."""

    def __init__(self, place):
        CodeError.__init__(self, "a letter is no value")
        self.place = place


class BadText(CodeError):
    """A line of a text is wrong."""

    def __init__(self, line):
        CodeError.__init__(self, "a line of the text is wrong")
        self.line = line


class TooMany(CodeError):
    """There are more of something than are allowed."""

    def __init__(self, what):
        CodeError.__init__(self, "there are too many of something")
        self.what = what


class Unlike(CodeError):
    """The values of two things are not the same."""


class NotKept(CodeError):
    """A guard does not hold."""

    def __init__(self, guard):
        CodeError.__init__(self, "a guard does not hold")
        self.guard = guard


class NothingLeft(CodeError):
    """There is nothing that can be taken away, undone or redone."""


class Busy(CodeError):
    """This cannot be done while something is tried."""
