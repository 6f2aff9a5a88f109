"""Lines of those who wait at names, each of them at one name at the most."""

from nightwatch.errors import NotWaiting


class Lines:
    def __init__(self):
        # From who to the name where it waits, as they came: so each name's line is in order, too.
        self.places = {}

    def come(self, name, who):
        if who in self.places:
            raise NotWaiting("this one waits already")
        self.places[who] = name

    def leave(self, who):
        if who not in self.places:
            raise NotWaiting("this one doesn't wait")
        self.places.pop(who)

    def waiting(self, name):
        return [who for who, place in self.places.items() if place == name]

    def waits_at(self, who):
        return self.places.get(who)

    def busy(self):
        return sorted(set(list(self.places.values())))
