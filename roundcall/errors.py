"""The refusals of the program: one class each, all straight under RoundError."""


class RoundError(ValueError):
    pass


class NoHall(RoundError):
    pass


class NoListener(RoundError):
    pass


class NoLoss(RoundError):
    pass


class TooMany(RoundError):
    pass


class NoWheel(RoundError):
    pass


class NoChain(RoundError):
    pass


class TooMuch(RoundError):
    pass


class NoPart(RoundError):
    pass


class Unsafe(RoundError):
    pass


class NoRow(RoundError):
    pass


class NoStand(RoundError):
    pass
