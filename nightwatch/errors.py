"""The refusals of the program, one class for each."""


class WatchError(ValueError):
    pass


class BadClock(WatchError):
    pass


class NotWaiting(WatchError):
    pass


class Over(WatchError):
    pass


class BadDesk(WatchError):
    pass


class BadRow(WatchError):
    def __init__(self, line):
        self.line = line


class BadProgram(WatchError):
    def __init__(self, line, word):
        self.line = line
        self.word = word


class BadBook(WatchError):
    def __init__(self, place):
        self.place = place
