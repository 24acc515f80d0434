"""The refusals, one class for each."""


class SlideError(ValueError):
    pass


class NoRule(SlideError):
    pass


class NoRow(SlideError):
    pass


class Broken(SlideError):
    pass


class NoSize(SlideError):
    pass


class NoNumber(SlideError):
    pass


class NotRead(SlideError):
    pass
