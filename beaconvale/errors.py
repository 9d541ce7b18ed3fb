"""The refusals: one class each, all of them straight under ValeError."""


class ValeError(ValueError):
    pass


class BadGround(ValeError):
    pass


class OffGround(ValeError):
    pass


class BadFog(ValeError):
    pass


class BadName(ValeError):
    pass


class Twice(ValeError):
    pass


class TooMany(ValeError):
    pass


class BadHour(ValeError):
    pass


class NoBeacon(ValeError):
    pass


class Beside(ValeError):
    pass


class BadLine(ValeError):
    pass


class BadNumber(ValeError):
    pass


class NoFog(ValeError):
    pass


class NothingBack(ValeError):
    pass
