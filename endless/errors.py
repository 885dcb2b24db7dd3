"""The refusals: one class for each, all of them under NumberError and none under another."""


class NumberError(ValueError):
    pass


class NoNatural(NumberError):
    pass


class BelowNought(NumberError):
    pass


class NoCount(NumberError):
    pass


class ByNought(NumberError):
    pass


class NoWay(NumberError):
    pass


class NoChain(NumberError):
    pass


class NoRoot(NumberError):
    pass


class NoBase(NumberError):
    pass


class NoDigit(NumberError):
    pass


class TooLong(NumberError):
    pass


class NoText(NumberError):
    pass


class NoName(NumberError):
    pass
