"""One errand as a machine: it does its rows step by step, and is told what others do for it."""

from nightwatch.frames import Cleaned, Frame, Grouped, Kept, Limited, Rounds, Tried
from nightwatch.rows import walk

WAITING_WORDS = ("wait", "hear", "take", "ask")


def might_of(rows):
    pairs = []
    for row in walk(rows):
        if row[0] in ("ring", "send"):
            pairs.append((row[0], row[2]))
        elif row[0] == "begin":
            pairs.append((row[0], row[3]))
    return pairs


def is_name_of_value(value):
    return isinstance(value, str) and not value.startswith(":")


class Machine:
    def __init__(self, rows):
        # The outermost first.
        self.frames = [Frame(rows, 0, 0)]
        self.last_scope = 0
        self.named_values = {}
        self.given = 0
        # From the open scopes that are marked to their words.
        self.marks = {}
        self.signal = None
        self.struck = False
        self.want = None
        self.ending = None

    def waiting(self):
        return self.want

    def outcome(self):
        return self.ending

    def scopes(self):
        return [frame.scope for frame in self.frames if frame.scope is not None]

    def is_marked(self, scope):
        return scope in self.marks

    def target(self):
        found = None
        for frame in reversed(self.frames):
            if frame.hides():
                return found
            if frame.scope in self.marks:
                found = frame.scope
        return found

    def strikable(self):
        return self.want is not None and self.want[0] != "halt" and self.target() is not None

    def might(self):
        pairs = []
        for frame in self.frames:
            pairs.extend(might_of(frame.behind()))
        return sorted(set(pairs))

    def mark(self, scope, word):
        if scope in self.scopes() and scope not in self.marks:
            self.marks[scope] = word

    def strike(self):
        self.want = None
        # Marks may still come, so the target is found by the next step.
        self.struck = True

    def go(self, value=None):
        if self.want[0] in ("take", "ask"):
            self.named_values[self.want[3]] = value
        self.want = None

    def raised(self, fault):
        self.want = None
        self.signal = ("faults", (fault,))

    def joined(self, faults):
        self.want = None
        self.frames[-1].tell_joined(faults)

    def step(self):
        if self.struck:
            self.struck = False
            self.signal = ("strike", self.target())
        while self.signal is None:
            told = self.go_on()
            if told is not None:
                return told
        return self.send_out()

    # The want of what is done next; None where a frame is left without a step, or a signal is on its way instead.
    def go_on(self):
        frame = self.frames[-1]
        row = frame.next_row()
        if row is not None:
            return self.do_row(row)
        follows = frame.over()
        if follows == "join":
            return self.wait_at(("join", frame.line, frame.scope))
        if follows == "leave":
            return self.leave_group(frame)
        if follows == "clean":
            return self.begin_clean_up(frame, None)
        if follows == "out" and len(self.frames) == 1:
            return self.end_with(("value", self.given))
        if follows == "out":
            self.leave_innermost()
            self.signal = frame.held
        return None

    def leave_innermost(self):
        frame = self.frames.pop()
        if frame.scope in self.marks:
            self.marks.pop(frame.scope)

    def wait_at(self, want):
        target = self.target()
        if target is not None:
            self.signal = ("strike", target)
            return None
        self.want = want
        return want

    def leave_group(self, frame):
        self.leave_innermost()
        if frame.told_faults != ():
            self.signal = ("faults", frame.told_faults)
        elif frame.held != ("strike", frame.scope):
            self.signal = frame.held
        return ("left", frame.line, frame.scope)

    def begin_clean_up(self, frame, signal):
        frame.clean(signal)
        return ("clean", frame.line)

    def end_with(self, outcome):
        self.frames = []
        self.ending = outcome
        return ("ended", 0, outcome)

    # The signal goes outwards, as far as the first frame that has something to do with it.
    def send_out(self):
        signal = self.signal
        self.signal = None
        while len(self.frames) > 1 and self.frames[-1].meets(signal) == "out":
            self.leave_innermost()
        frame = self.frames[-1]
        follows = frame.meets(signal)
        if follows == "clean":
            return self.begin_clean_up(frame, signal)
        if follows == "halt":
            return self.halt_at(frame, signal)
        if follows == "out":
            return self.end_with(signal if signal[0] == "faults" else (self.marks[0],))
        self.leave_innermost()
        self.frames.append(Frame(frame.others, frame.line))
        if follows == "late":
            return ("late", frame.line, frame.scope)
        return ("caught", frame.line, signal[1])

    def halt_at(self, frame, signal):
        frame.halt(signal)
        faults = signal[1] if signal[0] == "faults" else ()
        self.want = ("halt", frame.line, frame.scope, faults)
        return self.want

    def value_of(self, value):
        return self.named_values.get(value, 0) if is_name_of_value(value) else value

    # The scope of the innermost group of that name, None without one.
    def group_scope(self, name):
        for frame in reversed(self.frames):
            if frame.named == name:
                return frame.scope
        return None

    def do_row(self, row):
        if row[0] in WAITING_WORDS:
            return self.wait_at(row)
        if row[0] in ("group", "limit"):
            return self.enter_scope(row)
        if row[0] == "ring":
            return ("ring", row[1], row[2])
        if row[0] == "send":
            return ("send", row[1], row[2], self.value_of(row[3]))
        if row[0] == "raise":
            self.signal = ("faults", (row[2],))
            return ("raise", row[1], row[2])
        if row[0] == "begin":
            return ("begin", row[1], row[2], row[3], self.group_scope(row[4]), row[5])
        if row[0] == "off":
            scope = self.group_scope(row[2])
            return ("off", row[1], row[2] if scope is None else scope)
        self.do_quietly(row)
        return ("did", row[1])

    def enter_scope(self, row):
        self.last_scope = self.last_scope + 1
        scope = self.last_scope
        if row[0] == "group":
            self.frames.append(Grouped(row[3], row[1], scope, row[2]))
            return ("group", row[1], scope)
        self.frames.append(Limited(row[3], row[1], scope, row[4]))
        return ("limit", row[1], scope, row[2])

    def do_quietly(self, row):
        if row[0] == "let":
            self.named_values[row[2]] = self.value_of(row[3])
        elif row[0] == "give":
            self.given = self.value_of(row[2])
        elif row[0] == "when":
            if self.value_of(row[2]) == self.value_of(row[3]):
                self.frames.append(Frame(row[4], row[1]))
        elif row[0] == "repeat":
            self.frames.append(Rounds(row[3], row[1], row[2]))
        elif row[0] == "keep":
            self.frames.append(Kept(row[2], row[1]))
        elif row[0] == "try":
            self.frames.append(Tried(row[2], row[1], row[3], row[4]))
        else:
            self.frames.append(Cleaned(row[2], row[1], row[3]))
