"""The refusals: one class for each, all straight under RowError."""


class RowError(ValueError):
    pass


class NoWish(RowError):
    pass


class TooGreat(RowError):
    pass


class NoSuch(RowError):
    pass


class NoRow(RowError):
    pass


class Bare(RowError):
    pass


class BadText(RowError):
    pass
