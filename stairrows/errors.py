"""The refusals: one class for each, all of them under StairError and none under another."""


class StairError(ValueError):
    pass


class NoStairs(StairError):
    pass


class NoPair(StairError):
    pass


class NoPlace(StairError):
    pass


class NoShape(StairError):
    pass


class NoNote(StairError):
    pass
