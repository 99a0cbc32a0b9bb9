"""The refusals: all stand under HoldError, none of the others under another."""


class HoldError(ValueError):
    pass


class NoBlock(HoldError):
    pass


class NoChange(HoldError):
    pass


class NoRoom(HoldError):
    pass


class NoName(HoldError):
    pass


class Twice(HoldError):
    pass


class NoPiece(HoldError):
    pass


class NotSound(HoldError):
    pass


class NoRow(HoldError):
    pass
