"""A clock that is told where it stands, and what is due by it."""

from nightwatch.errors import BadClock


class Clock:
    def __init__(self):
        self.tick = 0
        # As they stand: by their times, those of one time as they were told.
        self.standing = []

    def now(self):
        return self.tick

    def at(self, time, who, what):
        if time < self.tick:
            raise BadClock("this time has gone by")
        self.drop(who, what)
        ahead = [due for due in self.standing if due[0] <= time]
        self.standing.insert(len(ahead), (time, who, what))

    def due(self):
        if self.next_time() != self.tick:
            return None
        return self.standing[0]

    def take(self):
        first = self.due()
        if first is None:
            raise BadClock("nothing is due now")
        self.standing.pop(0)
        return first

    def next_time(self):
        return None if self.standing == [] else self.standing[0][0]

    def dues(self):
        return list(self.standing)

    def drop(self, who, what=None):
        kept = [due for due in self.standing if due[1] != who or what not in (None, due[2])]
        gone = len(self.standing) - len(kept)
        self.standing = kept
        return gone

    def go_to(self, time):
        if time < self.tick:
            raise BadClock("this time has gone by")
        first = self.next_time()
        if first is not None and first < time:
            raise BadClock("something is due ahead of this time")
        self.tick = time
