"""The refusals, a class each, all under TroupeError."""


class TroupeError(ValueError):
    pass


class NoBook(TroupeError):
    def __init__(self, at):
        self.at = at


class NoChange(TroupeError):
    pass


class NoCasting(TroupeError):
    pass


class NoName(TroupeError):
    pass


class NoRow(TroupeError):
    pass
