"""The errors that the package raises, one class for each kind of failure."""


class HouseError(ValueError):
    """Any refusal of the package."""


class BadKind(HouseError):
    """A kind that the world does not take."""


class BadOperator(HouseError):
    """An operator that the world does not take."""


class BadTerm(HouseError):
    """What is no term, or has no kind where it needs one."""


class BadSaying(HouseError):
    """What is no saying, or no saying of the world."""


class BadShowing(HouseError):
    """What is no showing, or no road."""


class BadSize(HouseError):
    """A number that is not in its range."""


class BadName(HouseError):
    """A name that does not exist, or exists already."""


class TooMuch(HouseError):
    """What exceeds a bound of the work to be done."""


class BadText(HouseError):
    """A text that cannot be read; `row` is the line."""

    def __init__(self, row):
        super().__init__(f"row {row} cannot be read")
        self.row = row


class BadEntry(HouseError):
    """An entry that a book does not take; `at` is its index."""

    def __init__(self, at):
        super().__init__(f"entry {at} is not taken")
        self.at = at


class BadDeeds(HouseError):
    """What is no list of deeds."""


class NoDeed(HouseError):
    """There is no deed in effect that could be undone."""


class Busy(HouseError):
    """A deed during another deed."""
