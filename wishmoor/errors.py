"""The refusals of Wishmoor, one class for each."""


class MoorError(ValueError):
    pass


class NoQuay(MoorError):
    pass


class NoRow(MoorError):
    pass


class NoOutcome(MoorError):
    pass


class NoTree(MoorError):
    pass


class NoRank(MoorError):
    pass


class NoNote(MoorError):
    pass
