"""The refusals, one class for each, all under CalmError.

A way that is handed in is copied, so that changing it later changes no refusal.
"""


class CalmError(ValueError):
    pass


class NoText(CalmError):
    def __init__(self, line):
        CalmError.__init__(self, f"row {line} is wrong")
        self.line = line


class Broken(CalmError):
    def __init__(self, way):
        CalmError.__init__(self, f"the wire is at that level already, by the steps {way}")
        self.way = list(way)


class Crowded(CalmError):
    def __init__(self, way):
        CalmError.__init__(self, f"a spot to be filled has a token already, by the steps {way}")
        self.way = list(way)


class TooMany(CalmError):
    def __init__(self):
        CalmError.__init__(self, "there are more than the most that was asked for")


class CalledOff(CalmError):
    def __init__(self, way, lost, by):
        CalmError.__init__(self, f"step {lost} is called off by step {by}, behind the steps {way}")
        self.way = list(way)
        self.lost = lost
        self.by = by


class Clash(CalmError):
    def __init__(self, one, other, wire):
        CalmError.__init__(self, f"wire {wire} wants unlike things behind the steps {one} and {other}")
        self.one = list(one)
        self.other = list(other)
        self.wire = wire


class NoMove(CalmError):
    def __init__(self):
        CalmError.__init__(self, "that is none of the moves now")


class NoPlace(CalmError):
    def __init__(self):
        CalmError.__init__(self, "a wire can't be put in there")
