"""The refusals: one class for each, all of them under MixError."""


class MixError(ValueError):
    pass


class NoTable(MixError):
    pass


class NoBottom(MixError):
    pass


class NotAlike(MixError):
    pass


class NoStep(MixError):
    pass


class NoMix(MixError):
    pass


class NotEven(MixError):
    pass


class NoSwap(MixError):
    pass


class NoBounds(MixError):
    pass


class NoPlace(MixError):
    pass


class NoSums(MixError):
    pass


class TooGreat(MixError):
    pass


class NoNumber(MixError):
    pass


class NoText(MixError):
    pass
