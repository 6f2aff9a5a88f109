"""What several tests need: programs made by chance, and another way to do them.

The other way does an errand as a generator, its signals being errors that are raised through its blocks.
"""

import random

from nightwatch.errors import BadProgram
from nightwatch.looker import look
from nightwatch.reader import read


class Strike(Exception):
    def __init__(self, scope):
        self.scope = scope


class Faults(Exception):
    def __init__(self, faults):
        self.faults = faults


def pairs_in(rows):
    """What rows may ring, send or begin, all that stands in them among it, as they stand."""
    told = []
    for row in rows:
        if row[0] in ("ring", "send"):
            told.append((row[0], row[2]))
        if row[0] == "begin":
            told.append((row[0], row[3]))
        for field in row:
            if isinstance(field, tuple):
                told.extend(pairs_in(field))
    return told


class ModelMachine:
    def __init__(self, rows):
        self.stack, self.values, self.words, self.numbers = [], {}, {}, 0
        self.want, self.end, self.given, self.reply = None, None, 0, None
        self.push(scope=0, rest=rows)
        self.doing = self.errand(rows)

    # What is asked of a machine.
    def waiting(self):
        return self.want

    def outcome(self):
        return self.end

    def scopes(self):
        return [frame["scope"] for frame in self.stack if frame["scope"] is not None]

    def is_marked(self, scope):
        return scope in self.words and scope in self.scopes()

    def target(self):
        hiding = [place for place, frame in enumerate(self.stack) if frame["hides"]]
        seen = self.stack[hiding[-1]:] if hiding else self.stack
        marked = [frame["scope"] for frame in seen if frame["scope"] in self.words]
        return marked[0] if marked else None

    def strikable(self):
        return self.want is not None and self.want[0] != "halt" and self.target() is not None

    def might(self):
        if self.end is not None:
            return []
        return sorted(set(pairs_in([row for frame in self.stack for row in list(frame["rest"]) + list(frame["others"])])))

    # What is told to it.
    def mark(self, scope, word):
        if scope in self.scopes():
            self.words.setdefault(scope, word)

    def strike(self):
        self.want, self.reply = None, "struck"

    def go(self, value=None):
        if self.want[0] in ("take", "ask"):
            self.values[self.want[3]] = value
        self.want, self.reply = None, None

    def raised(self, fault):
        self.want, self.reply = None, fault

    def joined(self, faults):
        self.want, self.reply = None, faults

    def step(self):
        return next(self.doing)

    # How it is done.
    def value(self, value):
        return self.values.get(value, 0) if isinstance(value, str) and value[0] != ":" else value

    def errand(self, rows):
        try:
            yield from self.rows(rows)
            outcome = ("value", self.given)
        except Faults as signal:
            outcome = ("faults", signal.faults)
        except Strike:
            outcome = (self.words[0],)
        self.end = outcome
        yield ("ended", 0, outcome)

    def push(self, scope=None, name=None, hides=False, rest=(), others=()):
        self.stack.append({"scope": scope, "name": name, "hides": hides, "rest": rest, "others": others})
        return self.stack[-1]

    def rows(self, rows, again=False):
        frame = self.stack[-1]
        frame["rest"] = rows
        for place, row in enumerate(rows):
            frame["rest"] = rows if again else rows[place + 1:]
            yield from self.row(row)

    def leave(self, height):
        """Back to a height of the stack, as a signal goes out or rows are done."""
        for frame in self.stack[height:]:
            self.words.pop(frame["scope"], None)
        self.stack = self.stack[:height]

    def row(self, row):
        word, line = row[:2]
        if word in ("wait", "hear", "take", "ask"):
            yield from self.wait(row)
        elif word in ("let", "give"):
            if word == "let":
                self.values[row[2]] = self.value(row[3])
            else:
                self.given = self.value(row[2])
            yield ("did", line)
        elif word == "ring":
            yield row
        elif word == "send":
            yield ("send", line, row[2], self.value(row[3]))
        elif word == "raise":
            yield row
            raise Faults((row[2],))
        elif word == "begin":
            yield ("begin", line, row[2], row[3], self.group_of(row[4]), row[5])
        elif word == "off":
            yield ("off", line, self.group_of(row[2]) or row[2])
        elif word == "group":
            yield from self.group(row, len(self.stack))
        elif word == "limit":
            yield from self.limit(row, len(self.stack))
        else:
            yield from self.block(row, len(self.stack))

    def group_of(self, name):
        scopes = [frame["scope"] for frame in self.stack if frame["name"] == name]
        return scopes[-1] if scopes else None

    def wait(self, want):
        if self.target() is not None:
            raise Strike(self.target())
        self.want = want
        yield want
        if self.reply == "struck":
            raise Strike(self.target())
        if isinstance(self.reply, str):
            raise Faults((self.reply,))

    def block(self, row, height):
        word, line = row[:2]
        parts = [field for field in row if isinstance(field, tuple)]
        if word == "when":
            if self.value(row[2]) == self.value(row[3]):
                self.push(rest=parts[0])
                yield ("did", line)
                yield from self.rows(parts[0])
            else:
                yield ("did", line)
        elif word == "repeat":
            self.push(rest=parts[0])
            yield ("did", line)
            for number in range(row[2]):
                yield from self.rows(parts[0], number < row[2] - 1)
        elif word == "keep":
            self.push(hides=True, rest=parts[0])
            yield ("did", line)
            yield from self.rows(parts[0])
        elif word == "try":
            yield from self.tried(row, height)
        else:
            yield from self.done(row, height)
        self.leave(height)

    def tried(self, row, height):
        self.push(rest=row[2], others=row[4])
        yield ("did", row[1])
        try:
            yield from self.rows(row[2])
            return
        except Faults as signal:
            if row[3] not in ("any", signal.faults[0]):
                raise
            faults = signal.faults
        self.leave(height)
        self.push(rest=row[4])
        yield ("caught", row[1], faults)
        yield from self.rows(row[4])

    def done(self, row, height):
        self.push(rest=row[2], others=row[3])
        yield ("did", row[1])
        held = None
        try:
            yield from self.rows(row[2])
        except (Strike, Faults) as signal:
            held = signal
        self.leave(height)
        self.push(hides=True, rest=row[3])
        yield ("clean", row[1])
        yield from self.rows(row[3])
        if held is not None:
            raise held

    def next_scope(self):
        self.numbers += 1
        return self.numbers

    def limit(self, row, height):
        scope = self.next_scope()
        self.push(scope=scope, rest=row[3], others=row[4])
        yield ("limit", row[1], scope, row[2])
        try:
            yield from self.rows(row[3])
            self.leave(height)
            return
        except Strike as signal:
            if signal.scope != scope:
                raise
        self.leave(height)
        self.push(rest=row[4])
        yield ("late", row[1], scope)
        yield from self.rows(row[4])
        self.leave(height)

    def group(self, row, height):
        scope = self.next_scope()
        self.push(scope=scope, name=row[2], rest=row[3])
        yield ("group", row[1], scope)
        held = None
        try:
            yield from self.rows(row[3])
            yield from self.wait(("join", row[1], scope))
        except (Strike, Faults) as signal:
            self.leave(height + 1)
            self.stack[-1]["rest"] = ()
            held = signal if isinstance(signal, Strike) else None
            self.want = ("halt", row[1], scope, () if held else signal.faults)
        if self.want is not None:
            yield self.want
        self.leave(height)
        faults = self.reply
        yield ("left", row[1], scope)
        if faults:
            raise Faults(faults)
        if held is not None and held.scope != scope:
            raise held


# Rows and programs made by a fixed row of chances; names are few, so that errands meet one another.
class Maker:
    bells, boxes, names, faults = ("bell", "chime"), ("post", "desk"), ("x", "y"), ("lost", "torn")

    def __init__(self, seed):
        self.chance = random.Random(seed)

    def value(self):
        return self.chance.choice(("0", "1", "7", "x", "y", ":go", ":off", ":lost"))

    def plain(self, clean=False):
        chance = self.chance
        rows = [
            f"wait {chance.choice((1, 2, 3, 5))}", f"ring {chance.choice(self.bells)}",
            f"send {chance.choice(self.boxes)} {self.value()}", f"let {chance.choice(self.names)} {self.value()}",
        ]
        if not clean:
            rows += [
                f"hear {chance.choice(self.bells)}", f"take {chance.choice(self.boxes)} {chance.choice(self.names)}",
                f"wait {chance.choice((1, 4, 9))}",
            ]
            if chance.randint(0, 2) == 0:
                rows.append(f"raise {chance.choice(self.faults)}")
        return chance.choice(rows)

    def labelled(self, groups):
        """A row about errands in groups; groups are the names of those round it."""
        chance, label = self.chance, self.chance.choice(self.labels)
        rows = [f"ask {label} {chance.choice(self.names)}", f"off {label}"]
        if groups:
            within = chance.choice(("", "", f" within {chance.choice((1, 3, 6))}"))
            rows += [f"begin {label} {chance.choice(self.ahead)} in {chance.choice(groups)}" + within] * 3
            rows += [f"off {chance.choice(groups)}"]
        return chance.choice(rows)

    def block(self, deep, groups, clean):
        chance = self.chance
        kinds = ["when", "repeat"] if clean else ["group", "group", "limit", "limit", "keep", "try", "do", "when", "repeat"]
        kind = chance.choice(kinds)
        free = [name for name in ("g", "h", "k") if name not in groups]
        if kind == "group" and not free:
            kind = "keep"
        if kind == "group":
            name = chance.choice(free)
            return ["group " + name] + self.rows(deep, groups + [name], clean) + ["end"]
        head = {"limit": f"limit {chance.choice((1, 2, 4, 7))}", "when": f"when {chance.choice(self.names)} {self.value()}",
                "repeat": f"repeat {chance.choice((1, 2, 3))}"}.get(kind, kind)
        lines = [head] + self.rows(deep, groups, clean)
        # So that limits come and faults are caught often enough.
        if kind == "limit" and chance.randint(0, 2):
            lines.append(chance.choice(("wait 9", "hear bell", "take post x")))
        if kind == "try" and chance.randint(0, 1):
            lines.append("raise " + chance.choice(self.faults))
        if kind == "limit" and chance.randint(0, 1):
            lines += ["late", self.plain()] + self.rows(deep, groups, clean)
        if kind == "try":
            lines += ["but " + chance.choice(("any",) + self.faults)] + self.rows(deep, groups, clean)
        if kind == "do":
            lines += ["last"] + self.rows(deep, groups, True)
        return lines + ["end"]

    def rows(self, deep, groups, clean):
        lines = []
        for place in range(self.chance.choice((0, 1, 2, 2, 3, 4))):
            kind = self.chance.randint(0, 9)
            if kind < 4 and deep > 0:
                lines += self.block(deep - 1, groups, clean)
            elif kind < 7 and not clean and self.labels:
                lines.append(self.labelled(groups))
            else:
                lines.append(self.plain(clean))
        return lines

    def errand(self, name, ahead, deep=4):
        self.ahead, self.labels = ahead, self.chance.choice((("p",), ("p", "q"))) if ahead else ()
        lines = self.rows(deep, [], False)
        if ahead:
            begins = [f"begin {label} {self.chance.choice(ahead)} in g" for label in self.labels]
            lines += ["group g"] + begins + self.rows(deep - 1, ["g"], False) + ["end"] + self.rows(1, [], False)
        if self.chance.randint(0, 1):
            lines.append("give " + self.value())
        return ["errand " + name] + lines + ["end"]

    def text(self):
        names = ["a", "b", "c", "main"][-self.chance.randint(1, 4):]
        lines = []
        for place, name in enumerate(names):
            lines += self.errand(name, names[:place], 3)
        return "\n".join(lines)

    def program(self):
        """One that is let by."""
        while True:
            program = read(self.text())
            try:
                return look(program)
            except BadProgram:
                continue

    def events(self, many=6, ticks=25):
        told, tick = [], 0
        for place in range(self.chance.randint(0, many)):
            tick = min(tick + self.chance.choice((0, 1, 2, 5)), ticks)
            told.append((tick,) + self.chance.choice((
                ("ring", self.chance.choice(self.bells)), ("send", self.chance.choice(self.boxes), 3),
                ("send", self.chance.choice(self.boxes), ":go"), ("off", self.chance.randint(0, 6)),
            )))
        return told

    def picks(self):
        return [self.chance.randint(0, 30) for place in range(self.chance.choice((0, 5, 20, 60)))]
