"""The errors of the program. Each keeps its arguments under their names."""


class InvalidStore(ValueError):
    """The value is no store; index tells the first wrong part, or is None."""

    def __init__(self, index):
        self.index = index


class InvalidQuestion(ValueError):
    """The value is no question; part is None, "arity", "parts" or the index of the first wrong part."""

    def __init__(self, part):
        self.part = part


class InvalidProgram(ValueError):
    """The value is no program; index tells the first wrong deed, or is None."""

    def __init__(self, index):
        self.index = index


class InvalidWishes(ValueError):
    """The value is no tuple of wishes; index tells the first wrong wish, or is None."""

    def __init__(self, index):
        self.index = index


class InvalidOptions(ValueError):
    """The value is no tuple of options; index tells the first wrong option, or is None."""

    def __init__(self, index):
        self.index = index


class InvalidClaim(ValueError):
    """The value is no claim; part is the first name in its row that is wrong, or None."""

    def __init__(self, part):
        self.part = part


class ParseError(ValueError):
    """The text is not that of a question, or a program; line is the index of the first wrong line."""

    def __init__(self, line):
        self.line = line


class NothingDone(RuntimeError):
    """There is no turn, or not this number of turns, to go back to."""

    def __init__(self):
        RuntimeError.__init__(self)


class Refused(RuntimeError):
    """Several programs were refused; index tells the first one at fault, or is -1."""

    def __init__(self, index):
        self.index = index


class Banned(RuntimeError):
    """The store would not keep the ban: its part with this index holds with things as its values."""

    def __init__(self, index, things):
        self.index = index
        self.things = things


class Unfounded(RuntimeError):
    """A certificate founds no adopting; fault is its first fault, or ("other",)."""

    def __init__(self, fault):
        self.fault = fault


class LimitExceeded(OverflowError):
    """More would have to be looked at than the limit lets."""

    def __init__(self, limit):
        self.limit = limit
