"""The refusals, one class for each."""


class SlowError(ValueError):
    pass


class NoPlace(SlowError):
    pass


class NoSize(SlowError):
    pass


class NoState(SlowError):
    pass


class NoRow(SlowError):
    pass
