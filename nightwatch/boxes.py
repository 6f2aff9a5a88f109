"""Letter boxes: letters that wait for takers, or takers that wait for letters."""

from nightwatch.errors import NotWaiting
from nightwatch.lines import Lines


class Boxes:
    def __init__(self):
        self.takers = Lines()
        # From a box to its letters, the first sent ahead.
        self.mail = {}

    def send(self, box, letter):
        takers = self.takers.waiting(box)
        if takers == []:
            self.mail.setdefault(box, []).append(letter)
            return None
        self.takers.leave(takers[0])
        return takers[0]

    def take(self, box, who):
        if self.takers.waits_at(who) is not None:
            raise NotWaiting("this one waits already")
        if self.letters(box) == []:
            self.takers.come(box, who)
            return (False, None)
        return (True, self.mail[box].pop(0))

    def leave(self, who):
        self.takers.leave(who)

    def letters(self, box):
        return list(self.mail.get(box, []))

    def waiting(self, box):
        return self.takers.waiting(box)

    def waits_at(self, who):
        return self.takers.waits_at(who)

    def busy(self):
        filled = [box for box, letters in self.mail.items() if letters != []]
        return sorted(filled + self.takers.busy())
