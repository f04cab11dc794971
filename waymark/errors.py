"""The refusals: one class for each, all straight under WayError."""


class WayError(ValueError):
    pass


class NoAddress(WayError):
    def __init__(self, at):
        self.at = at


class NoBase(WayError):
    pass


class NoPattern(WayError):
    pass


class NoValue(WayError):
    def __init__(self, name):
        self.name = name


class NoName(WayError):
    pass


class NoRow(WayError):
    pass
