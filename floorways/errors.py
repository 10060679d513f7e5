"""The refusals of Floorways."""


class FloorError(ValueError):
    pass


class BadFloor(FloorError):
    pass


class BadKind(FloorError):
    pass


class BadCell(FloorError):
    pass


class BadCharge(FloorError):
    pass


class BadStops(FloorError):
    pass


class BadWay(FloorError):
    pass


class Empty(FloorError):
    pass


class NoCarrier(FloorError):
    pass


class NoTask(FloorError):
    pass


class Meets(FloorError):
    def __init__(self, other):
        self.other = other


class Taken(FloorError):
    pass


class Busy(FloorError):
    pass


class NoReserve(FloorError):
    pass


class Closed(FloorError):
    def __init__(self, shut):
        self.shut = shut


class Jammed(FloorError):
    def __init__(self, other):
        self.other = other
