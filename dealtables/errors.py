"""The refusals: one class for each, all below DealError."""


class DealError(ValueError):
    def __init__(self, words="", at=0):
        ValueError.__init__(self, words)
        self.at = at


class NoText(DealError):
    pass


class NoRow(DealError):
    pass


class Twice(DealError):
    pass


class BadCheck(DealError):
    pass


class NoRef(DealError):
    pass


class Held(DealError):
    pass


class NoMark(DealError):
    pass


class BadLog(DealError):
    pass


class Clash(DealError):
    def __init__(self, words="", at=0, how="both"):
        DealError.__init__(self, words, at)
        self.how = how
