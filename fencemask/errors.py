"""The refusals: one class for each, all under FenceError."""


class FenceError(ValueError):
    pass


class NoText(FenceError):
    def __init__(self, line):
        self.line = line


class NotWithin(FenceError):
    def __init__(self, at, why):
        self.at = at
        self.why = why


class NoGuest(FenceError):
    def __init__(self, block, at):
        self.block = block
        self.at = at


class TooLong(FenceError):
    pass
