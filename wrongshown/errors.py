"""The errors of the package: each one stands directly under ShownError."""


class ShownError(ValueError):
    """The base class of all errors of the package."""


# An __init__ below keeps its arguments as attributes and makes no message of them: they may be
# any values, and Python refuses to write out an integer of very many digits.
class InvalidForm(ShownError):
    """A part of a form is not allowed; field is "" if the part is none of a field."""

    def __init__(self, part, field):
        self.part = part
        self.field = field


class InvalidRule(ShownError):
    """A part of a rule is not allowed, or a text names no rule."""

    def __init__(self, part):
        self.part = part


class InvalidWords(ShownError):
    """A value is not a tuple with one word of the form for each field."""

    def __init__(self, words):
        self.words = words


class InvalidStanding(ShownError):
    """A value is no standing of the form under the rule."""


class InvalidDeed(ShownError):
    """A value is no deed of the form."""

    def __init__(self, deed):
        self.deed = deed


class InvalidTable(ShownError):
    """There is no kind of table of this name."""

    def __init__(self, kind):
        self.kind = kind


class InvalidText(ShownError):
    """A line of a text is not allowed; the lines are counted from 1."""

    def __init__(self, line):
        self.line = line


class UnknownField(ShownError):
    """The form has no field of this name."""

    def __init__(self, field):
        self.field = field


class UnknownWord(ShownError):
    """The form has no such word."""

    def __init__(self, word):
        self.word = word


class TooManyAsked(ShownError):
    """A check of the field would ask more questions than there is room for."""

    def __init__(self, field):
        self.field = field


class NothingToUndo(ShownError):
    """Nothing is left that could be taken back."""


class NothingToRedo(ShownError):
    """Nothing is left that could be done again."""


class InvalidBound(ShownError):
    """A value is no allowed limit."""

    def __init__(self, value):
        self.value = value


class LimitExceeded(ShownError):
    """There is more than the limit allows."""

    def __init__(self, limit):
        self.limit = limit


class NoStanding(ShownError):
    """A value is no standing of the book."""


class NoFault(ShownError):
    """The book does not have this fault."""

    def __init__(self, kind, field):
        self.kind = kind
        self.field = field


class InvalidKind(ShownError):
    """There is no kind of fault of this name."""

    def __init__(self, kind):
        self.kind = kind


class NotComparable(ShownError):
    """The words or the field names of two forms differ."""

    def __init__(self, part):
        self.part = part


class InvalidChange(ShownError):
    """The item at this index is no change that may stand there."""

    def __init__(self, index):
        self.index = index


class InvalidRules(ShownError):
    """There are too few or too many rules."""
