"""The refusals: each way in which the program says no has a class of its own."""


class HouseError(ValueError):
    def __init__(self, words, at=None, other=None):
        ValueError.__init__(self, words)
        self.at = at
        self.other = other


class NoText(HouseError):
    pass


class BadForm(HouseError):
    pass


class BadRule(HouseError):
    pass


class NoRule(HouseError):
    pass


class NoFill(HouseError):
    pass


class GoesOn(HouseError):
    pass


class TwoClaims(HouseError):
    pass


class NoName(HouseError):
    pass


class NoAhead(HouseError):
    pass
