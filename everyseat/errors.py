"""The refusals of Everyseat."""


class SeatError(ValueError):
    """Any refusal."""


class NoTree(SeatError):
    """Worths and ties that make no tree."""


class NoPlace(SeatError):
    """A number that is no place, or a branch that is no two tied places."""


class NoOrder(SeatError):
    """A list that does not have each place once."""


class NoRule(SeatError):
    """Sums that make no rule."""


class NoPaper(SeatError):
    """A paper by which a seat's worth cannot be told."""


class NoName(SeatError):
    """A name that no rule has."""


class NoLength(SeatError):
    """A tree with a length below 0 where none may be."""


class NoTie(SeatError):
    """Two places that are not tied, or cannot be."""


class NoText(SeatError):
    """A text that writes no tree or rule."""


class NoForm(SeatError):
    """A row that says nothing to a desk."""
