"""The refusals of the program, one class for each kind."""


class CurveError(ValueError):
    pass


class NoRatio(CurveError):
    pass


class NoCurve(CurveError):
    pass


class NoTime(CurveError):
    pass


class NoHouse(CurveError):
    pass


class NoWay(CurveError):
    pass


class NoText(CurveError):
    pass


class NoName(CurveError):
    pass


class NoEnd(CurveError):
    pass


class NoRow(CurveError):
    pass
