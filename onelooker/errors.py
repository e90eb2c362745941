"""The errors of the program. Each one keeps, as attributes, what its constructor is given."""


class LookerError(ValueError):
    """The base class of all errors of the program."""


class BadName(LookerError):
    """A value that should be a name, or a tuple of names, is not."""

    def __init__(self, value):
        self.value = value


class BadCell(LookerError):
    """A value that should be a cell over the names is not."""

    def __init__(self, value):
        self.value = value


class BadTerm(LookerError):
    """A value that should be a term is not."""

    def __init__(self, value):
        self.value = value


class BadLiteral(LookerError):
    """A value that should be a literal is not, or two values make no literal."""

    def __init__(self, value):
        self.value = value


class BadClause(LookerError):
    """A value that should be a clause is not."""

    def __init__(self, value):
        self.value = value


class BadCard(LookerError):
    """A value that should be a card is not, or is one of the wrong form."""

    def __init__(self, value):
        self.value = value


class BadLabel(LookerError):
    """A value that should be a label is not."""

    def __init__(self, value):
        self.value = value


class TakenLabel(LookerError):
    """A label is already in use."""

    def __init__(self, label):
        self.label = label


class NoLabel(LookerError):
    """A label is not in use."""

    def __init__(self, label):
        self.label = label


class NoOwner(LookerError):
    """There is no theory of this owner."""

    def __init__(self, owner):
        self.owner = owner


class CardMismatch(LookerError):
    """An owner has different cards in two problems."""

    def __init__(self, owner):
        self.owner = owner


class NamesMismatch(LookerError):
    """Two values are not over the same names."""


class TooMany(LookerError):
    """There is more of something than a limit allows."""

    def __init__(self, what):
        self.what = what


class BadText(LookerError):
    """A text is not a written form; the line says where."""

    def __init__(self, line):
        self.line = line


class BadPolicy(LookerError):
    """An owner may not have a kind, or lacks one that the kind needs."""

    def __init__(self, owner, kind):
        self.owner = owner
        self.kind = kind


class NotComplete(LookerError):
    """A policy is not complete."""


class NotTellable(LookerError):
    """An owner cannot tell a literal now."""

    def __init__(self, owner, literal):
        self.owner = owner
        self.literal = literal


class BadRow(LookerError):
    """A row of a certificate is not right, or is not there."""

    def __init__(self, index):
        self.index = index


class BadStep(LookerError):
    """A step is not right, or is not there."""

    def __init__(self, index):
        self.index = index


class NotSame(LookerError):
    """Two terms are not the same."""

    def __init__(self, first, second):
        self.first = first
        self.second = second


class NothingToUndo(LookerError):
    """Nothing is left that could be taken back."""


class SharedOwner(LookerError):
    """An owner is in both of two values that may not share one."""

    def __init__(self, owner):
        self.owner = owner


class Stands(LookerError):
    """Something stands that should not, so there is nothing to show against it."""


class BadOrder(LookerError):
    """An order does not contain exactly the labels, each once."""

    def __init__(self, value):
        self.value = value


class NotEasy(LookerError):
    """A problem is not easy, or clauses are not Horn."""
