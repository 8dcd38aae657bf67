"""The refusals."""


class ProbeError(ValueError):
    pass


class NoMachine(ProbeError):
    pass


class NoState(ProbeError):
    pass


class NoProbe(ProbeError):
    pass


class NoAnswers(ProbeError):
    pass


class NoSize(ProbeError):
    pass


class Unfit(ProbeError):
    pass


class TooMuch(ProbeError):
    pass


class Unsteady(ProbeError):
    pass


class Ended(ProbeError):
    pass


class NoText(ProbeError):
    pass


class NoRow(ProbeError):
    pass


class NoName(ProbeError):
    pass
