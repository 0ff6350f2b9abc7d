"""The refusals, each under TollError and none under another one."""


class TollError(ValueError):
    pass


class NoText(TollError):
    pass


class NoProgram(TollError):
    pass


class NoFunction(TollError):
    pass


class NoValue(TollError):
    pass


class NoTable(TollError):
    pass


class NoRatio(TollError):
    pass


class NoPaper(TollError):
    pass


class NoSize(TollError):
    def __init__(self, at):
        TollError.__init__(self, f"the size does not hold at {at!r}")
        self.at = at


class NoRow(TollError):
    pass


class TooMany(TollError):
    pass
