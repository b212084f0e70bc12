"""The errors by which the program refuses what it is handed."""


class BentError(ValueError):
    pass


class NoSheet(BentError):
    pass


class NoPlace(BentError):
    pass


class NoNumber(BentError):
    pass


class NoRow(BentError):
    pass


class Apart(BentError):
    pass


class NoRing(BentError):
    pass


class TooMany(BentError):
    pass


class Bare(BentError):
    pass


class NoSigns(BentError):
    pass


class NoLine(BentError):
    pass


class OnLine(BentError):
    def __init__(self, three):
        self.three = three


class NoText(BentError):
    def __init__(self, at):
        self.at = at
