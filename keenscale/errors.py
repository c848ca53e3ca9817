"""The refusals: whatever keenscale refuses, it refuses with a class that stands under KeenError."""


class KeenError(ValueError):
    pass


class BadSay(KeenError):
    pass


class NoSay(KeenError):
    pass


class NoWidth(KeenError):
    pass


class BadLine(KeenError):
    pass
