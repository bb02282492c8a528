"""The refusals. None stands under another one, so that each can be taken by itself."""


class LoadError(ValueError):
    pass


class NoWorld(LoadError):
    pass


class NoLoader(LoadError):
    pass


class NoClass(LoadError):
    pass


class NotLinked(LoadError):
    # Who takes this one wants the reason as a value, not only as words.
    def __init__(self, why):
        self.why = why


class NoNeeds(LoadError):
    pass


class NoHand(LoadError):
    pass


class NoOrder(LoadError):
    pass


class NoFile(LoadError):
    pass


class TooMany(LoadError):
    pass


class NoText(LoadError):
    pass
