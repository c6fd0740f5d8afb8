"""The refusals: one class for each, all under ModeError, none under another one."""


class ModeError(ValueError):
    pass


class NoPlace(ModeError):
    pass


class NoRow(ModeError):
    pass


class NoFit(ModeError):
    pass


class NoState(ModeError):
    # number is None where undone or done again was asked for, which name no state.
    def __init__(self, number):
        self.number = number


class NoPhrase(ModeError):
    pass


class NoPattern(ModeError):
    pass


class NoLine(ModeError):
    pass


class TooLong(ModeError):
    pass


class NoWords(ModeError):
    pass


class NoDeed(ModeError):
    pass


class NoName(ModeError):
    pass
