"""What the package refuses: one class for each kind of refusal."""


class ShaftError(ValueError):
    """Any refusal."""


class NoPlace(ShaftError):
    """A piece can not lie there."""


class Over(ShaftError):
    """A piece would lie with a cell above the shaft."""


class NoPlan(ShaftError):
    """A plan has not as many drops as there are pieces."""


class NoPiece(ShaftError):
    """There is no piece of this number."""

    def __init__(self, number):
        # The message leaves the number out: Python refuses to write very long ones.
        super().__init__("there is no piece of this number")
        self.number = number


class NoBack(ShaftError):
    """There is no drop to take back, or to do again."""


class NoText(ShaftError):
    """A text is not the writing of anything."""


class NoBag(ShaftError):
    """Numbers can not have come so out of bags."""
