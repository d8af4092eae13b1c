"""The refusals, each an error class of its own."""


class WorldError(ValueError):
    def __init__(self, words, place):
        ValueError.__init__(self, words)
        self.place = place


class BadRow(WorldError):
    pass


class Misplaced(WorldError):
    pass


class Twice(WorldError):
    pass


class NoName(WorldError):
    pass


class TooMany(WorldError):
    pass


class Unfinished(WorldError):
    pass
