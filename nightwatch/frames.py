"""The frames of an errand: its own rows, and one for each block that it is in."""


class Frame:
    def __init__(self, rows, line, scope=None):
        self.rows = tuple(rows)
        self.line = line
        self.scope = scope
        self.begun_rows = 0
        # A group's name, and a signal that goes on when the frame is left: most frames have neither.
        self.named = None
        self.held = None

    def next_row(self):
        if self.begun_rows == len(self.rows):
            return None
        self.begun_rows = self.begun_rows + 1
        return self.rows[self.begun_rows - 1]

    def begin_anew(self, rows):
        self.rows = tuple(rows)
        self.begun_rows = 0

    def hides(self):
        return False

    def over(self):
        return "out"

    def meets(self, signal):
        return "out"

    def rest(self):
        return list(self.rows[self.begun_rows:])

    def behind(self):
        return self.rest()


class Rounds(Frame):
    def __init__(self, rows, line, many):
        Frame.__init__(self, rows, line)
        self.rounds_left = many - 1

    def over(self):
        if self.rounds_left < 1:
            return "out"
        self.rounds_left = self.rounds_left - 1
        self.begin_anew(self.rows)
        return "on"

    def behind(self):
        return list(self.rows) if self.rounds_left > 0 else self.rest()


class Kept(Frame):
    def hides(self):
        return True


class Tried(Frame):
    def __init__(self, rows, line, fault, others):
        Frame.__init__(self, rows, line)
        self.fault = fault
        self.others = tuple(others)

    def meets(self, signal):
        if signal[0] == "faults" and self.fault in ("any", signal[1][0]):
            return "caught"
        return "out"

    def behind(self):
        return self.rest() + list(self.others)


class Cleaned(Frame):
    def __init__(self, rows, line, others):
        Frame.__init__(self, rows, line)
        self.others = tuple(others)
        self.cleaning = False

    def clean(self, signal):
        self.begin_anew(self.others)
        self.cleaning = True
        self.held = signal

    def hides(self):
        return self.cleaning

    def over(self):
        return "out" if self.cleaning else "clean"

    def meets(self, signal):
        return "out" if self.cleaning else "clean"

    def behind(self):
        return self.rest() + ([] if self.cleaning else list(self.others))


class Limited(Frame):
    def __init__(self, rows, line, scope, others):
        Frame.__init__(self, rows, line, scope)
        self.others = tuple(others)

    def meets(self, signal):
        return "late" if signal == ("strike", self.scope) else "out"

    def behind(self):
        return self.rest() + list(self.others)


class Grouped(Frame):
    def __init__(self, rows, line, scope, named):
        Frame.__init__(self, rows, line, scope)
        self.named = named
        self.told_faults = None

    # None of its rows is done behind that; faults are noted in the group, so a strike alone is held.
    def halt(self, signal):
        self.begin_anew(())
        self.held = signal if signal[0] == "strike" else None

    def tell_joined(self, faults):
        self.told_faults = tuple(faults)

    def over(self):
        return "join" if self.told_faults is None else "leave"

    def meets(self, signal):
        return "halt"
