"""The refusals, one class for each, all of them beneath StowError."""


class StowError(ValueError):
    pass


class NoShip(StowError):
    pass


class OutOfShip(StowError):
    pass


class NoLoad(StowError):
    pass


class NoBox(StowError):
    pass


class NoPlace(StowError):
    pass


class Twice(StowError):
    pass


class Passed(StowError):
    pass


class Unsound(StowError):
    pass


class NotYet(StowError):
    pass


class BadLift(StowError):
    def __init__(self, why):
        self.why = why


class NoPlan(StowError):
    def __init__(self, why):
        self.why = why


class BadRow(StowError):
    def __init__(self, at, why):
        self.at = at
        self.why = why


class NoFilling(StowError):
    def __init__(self, paper):
        self.paper = paper


class NoNote(StowError):
    def __init__(self, line):
        self.line = line
