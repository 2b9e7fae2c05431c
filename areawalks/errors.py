"""The errors of the package, each made from its fields."""


class WalkError(ValueError):
    """What all errors of the package are."""


class BadNumber(WalkError):
    """A value is not the number that is expected."""

    def __init__(self, value):
        self.value = value


class BadPlace(WalkError):
    """A value is not the object that is expected, mostly no Place."""

    def __init__(self, value):
        self.value = value


class BadWord(WalkError):
    """A value tells no walk."""

    def __init__(self, value):
        self.value = value


class TooMany(WalkError):
    """There would be more than the most that there may be."""

    def __init__(self, most):
        self.most = most


class TooFar(WalkError):
    """A number is greater than what can be listed."""

    def __init__(self, number):
        self.number = number


class NotWithin(WalkError):
    """A table does not lie within another one."""


class OneSided(WalkError):
    """The told places do not reach to all sides."""

    def __init__(self, form):
        self.form = form


class Still(WalkError):
    """The walk of no steps has no greatest root."""


class NoDirection(WalkError):
    """A place over the beginning lies in no direction."""


class Uneven(WalkError):
    """Two lists have unlike lengths."""

    def __init__(self, first, second):
        self.first = first
        self.second = second


class EndsDiffer(WalkError):
    """Two lists have unlike ends at an index."""

    def __init__(self, number):
        self.number = number


class NotOnto(WalkError):
    """A renaming with this factor can not be undone."""

    def __init__(self, number):
        self.number = number


class NotClosed(WalkError):
    """A table makes no closed floor."""


class BadText(WalkError):
    """A word of a formula can not stand where it stands."""

    def __init__(self, number):
        self.number = number


class NoWalk(WalkError):
    """No walk has this name."""

    def __init__(self, name):
        self.name = name


class BadName(WalkError):
    """A value is not the name that is expected."""

    def __init__(self, value):
        self.value = value


class Taken(WalkError):
    """A promise of the book has this name."""

    def __init__(self, name):
        self.name = name


class NoPromise(WalkError):
    """No promise has this name."""

    def __init__(self, name):
        self.name = name


class Barred(WalkError):
    """Promises of these names would not be kept."""

    def __init__(self, words):
        self.words = words


class NothingToUndo(WalkError):
    """No deed is left that could be taken back."""
