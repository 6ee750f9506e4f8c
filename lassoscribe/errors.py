"""The refusals, one class for each."""


class ScribeError(ValueError):
    pass


class NoMoment(ScribeError):
    pass


class NoRun(ScribeError):
    pass


class NoSentence(ScribeError):
    pass


class NoMachine(ScribeError):
    pass


class TooMuch(ScribeError):
    pass


class NoText(ScribeError):
    pass


class NoName(ScribeError):
    pass


class NoRow(ScribeError):
    pass
