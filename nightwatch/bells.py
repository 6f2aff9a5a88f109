"""Bells, and the lines of those who hear them."""

from nightwatch.lines import Lines


class Bells(Lines):
    def hear(self, bell, who):
        self.come(bell, who)

    def ring(self, bell):
        heard = self.waiting(bell)
        for who in heard:
            self.leave(who)
        return heard
