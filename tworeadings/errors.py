"""The refusals, one class for each."""


class WordError(ValueError):
    pass


class BadCode(WordError):
    pass


class BadText(WordError):
    pass


class NoReading(WordError):
    pass


class BadNumber(WordError):
    pass


class BadPlaces(WordError):
    pass


class BadLengths(WordError):
    pass
