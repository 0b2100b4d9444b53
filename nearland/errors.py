"""The refusals. Each stands straight under NearError, so that one kind is never taken for another."""


# An error that is made of a value shows this value as its words.


class NearError(ValueError):
    pass


class NoNumber(NearError):
    pass


class Flat(NearError):
    pass


class Twice(NearError):
    def __init__(self, place):
        self.place = place


class NoPlace(NearError):
    def __init__(self, place):
        self.place = place


class Stiff(NearError):
    def __init__(self, side):
        self.side = side


class Crossed(NearError):
    def __init__(self, fault):
        self.fault = fault
