"""All errors of the package; each field holds the very argument, or the item of it, that is wrong."""


class MillError(ValueError):
    """What all errors of the package are derived from."""


class InvalidList(MillError):
    """An argument that has to be a list, of a length or with items that a point names, and is none."""

    def __init__(self, value=None):
        self.value = value


class InvalidItem(MillError):
    """An item that does not fit, or an argument that has to be something a point names."""

    def __init__(self, value=None):
        self.value = value


class InvalidNumber(MillError):
    """An argument that has to be a number, within bounds that a point names, and is none."""

    def __init__(self, value=None):
        self.value = value


class InvalidMill(MillError):
    """An argument that has to be a mill and is none, or that does not fit."""

    def __init__(self, value=None):
        self.value = value


class InvalidHoldings(MillError):
    """An argument that has to be holdings of a mill and is none, or that does not fit."""

    def __init__(self, value=None):
        self.value = value


class InvalidRow(MillError):
    """An argument that has to be a row and is none, or that can't be done."""

    def __init__(self, value=None):
        self.value = value


class InvalidBox(MillError):
    """An argument, or an item of a chain, that has to be a box and is none, or does not fit."""

    def __init__(self, value=None):
        self.value = value


class InvalidChain(MillError):
    """An argument that has to be a chain and is none."""

    def __init__(self, value=None):
        self.value = value


class InvalidBrew(MillError):
    """An argument that has to be a brew and is none."""

    def __init__(self, value=None):
        self.value = value


class InvalidBands(MillError):
    """An argument that has to be bands and is none."""

    def __init__(self, value=None):
        self.value = value


class InvalidEntries(MillError):
    """An argument that has to be entries and is none."""

    def __init__(self, value=None):
        self.value = value


class InvalidBook(MillError):
    """An argument that has to be a book and is none."""

    def __init__(self, value=None):
        self.value = value


class UnlikeBooks(MillError):
    """A book with other places or stuffs than another one."""

    def __init__(self, value=None):
        self.value = value


class InvalidText(MillError):
    """An argument that has to be a text of something and is none."""

    def __init__(self, value=None):
        self.value = value


class InvalidLot(MillError):
    """An argument that has to be a lot of a mill and is none."""

    def __init__(self, value=None):
        self.value = value


class InvalidPrices(MillError):
    """An argument that has to be prices and is none."""

    def __init__(self, value=None):
        self.value = value


class InvalidClaim(MillError):
    """An argument that has to be a claim and is none."""

    def __init__(self, value=None):
        self.value = value


class InvalidName(MillError):
    """An argument that has to be a name and is none."""

    def __init__(self, name=None):
        self.name = name


class TakenName(MillError):
    """A name that is there already."""

    def __init__(self, name=None):
        self.name = name


class UnknownName(MillError):
    """An argument that has to be one of the names there, and is none."""

    def __init__(self, name=None):
        self.name = name


class Lacking(MillError):
    """The name of a recipe that another mill lacks."""

    def __init__(self, name=None):
        self.name = name


class UnknownBooking(MillError):
    """An argument that has to be the number of a booking that stands and is none."""

    def __init__(self, number=None):
        self.number = number


class UnknownClaim(MillError):
    """An argument that has to be the number of a claim and is none, or is that of one taken back."""

    def __init__(self, number=None):
        self.number = number


class NothingToUndo(MillError):
    """Undoing where there is nothing to undo."""
