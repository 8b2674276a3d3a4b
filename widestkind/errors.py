"""The exceptions of the package, each directly beneath KindError, with the very objects that they were given."""


class KindError(ValueError):
    """What all exceptions of the package are."""


class ByZero(KindError):
    """Something was to be divided by 0."""


class BadText(KindError):
    """A text is not written as it should be: `at` is the index where that shows."""

    def __init__(self, at):
        self.at = at


class Twice(KindError):
    """A word or name stands a second time where it may stand once."""

    def __init__(self, name):
        self.name = name


class BadName(KindError):
    """A word or name is not one that may stand there."""

    def __init__(self, name):
        self.name = name


class BadFilling(KindError):
    """What is told for a name cannot be put in its place."""

    def __init__(self, name):
        self.name = name


class BadLine(KindError):
    """A line of a book, counted from 1, is not written as it should be."""

    def __init__(self, number):
        self.number = number


class Unknown(KindError):
    """A name stands for nothing that is told."""

    def __init__(self, name):
        self.name = name


class BadMacro(KindError):
    """A macro is called that is not there, or not with such parts."""

    def __init__(self, name):
        self.name = name


class BadTree(KindError):
    """A value is not a tree."""

    def __init__(self, given):
        self.given = given


class BadPlace(KindError):
    """A value is not a place that may be told there."""

    def __init__(self, given):
        self.given = given


class BadKnot(KindError):
    """A value is not a knot that may be told there."""

    def __init__(self, given):
        self.given = given


class NoKind(KindError):
    """A whole has no kind."""


class BadKind(KindError):
    """A value is not a kind that may be told there."""

    def __init__(self, given):
        self.given = given


class BadForm(KindError):
    """A part of a form, with this number, is wrong; or a value is no form, with None."""

    def __init__(self, number):
        self.number = number


class BadDeeds(KindError):
    """A value is not a list of deeds for a text."""

    def __init__(self, given):
        self.given = given


class BadWeight(KindError):
    """A value is not a weight."""

    def __init__(self, given):
        self.given = given


class BadUnits(KindError):
    """A value does not tell units."""

    def __init__(self, given):
        self.given = given


class BadBudget(KindError):
    """A value is not a budget."""

    def __init__(self, given):
        self.given = given


class BadStep(KindError):
    """A value is not a step that can be done there."""

    def __init__(self, given):
        self.given = given


class TooMany(KindError):
    """There are more things, by their count, than a function looks at."""

    def __init__(self, count):
        self.count = count


class NoSuch(KindError):
    """There is nothing with this name."""

    def __init__(self, name):
        self.name = name


class NothingToUndo(KindError):
    """There is no deed that could be taken back."""


class NothingToRedo(KindError):
    """There is no deed that could be done again."""
