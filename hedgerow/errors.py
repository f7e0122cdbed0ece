"""The refusals: each has a class of its own, and all stand under HedgeError."""


class HedgeError(ValueError):
    pass


class BadHedge(HedgeError):
    # `at` is the place of the first wrong rod, or None where there is no list of rods to look through.
    def __init__(self, at):
        HedgeError.__init__(self, f"no hedge, wrong at: {at}")
        self.at = at


class BadText(HedgeError):
    pass


class BadCode(HedgeError):
    pass


class BadNumbers(HedgeError):
    pass


class TooBig(HedgeError):
    pass


class TooSmall(HedgeError):
    pass


class NoTip(HedgeError):
    pass
