"""The refusals of the program."""


class BenchError(ValueError):
    pass


class NoWorld(BenchError):
    pass


class NoOrder(BenchError):
    pass


class NoLengths(BenchError):
    pass


class NoWork(BenchError):
    pass


class NoSide(BenchError):
    pass


class Never(BenchError):
    pass


class TooMany(BenchError):
    pass


class NoStep(BenchError):
    pass


class NoNumber(BenchError):
    pass


class NoRow(BenchError):
    pass


class NoText(BenchError):
    pass
