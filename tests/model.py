"""What several tests need: programs made by chance, and another way to do them.

The other way does an errand as a generator, its signals being errors that are raised through its blocks.
"""

import random

from nightwatch.errors import BadProgram
from nightwatch.looker import look
from nightwatch.reader import read


class Strike(Exception):
    def __init__(self, scope):
        self.scope = scope


class Faults(Exception):
    def __init__(self, faults):
        self.faults = faults


def pairs_in(rows):
    """What rows may ring, send or begin, all that stands in them among it, as they stand."""
    told = []
    for row in rows:
        if row[0] in ("ring", "send"):
            told.append((row[0], row[2]))
        if row[0] == "begin":
            told.append((row[0], row[3]))
        for field in row:
            if isinstance(field, tuple):
                told.extend(pairs_in(field))
    return told


class ModelMachine:
    def __init__(self, rows):
        self.stack, self.values, self.words, self.numbers = [], {}, {}, 0
        self.want, self.end, self.given, self.reply = None, None, 0, None
        self.push(scope=0, rest=rows)
        self.doing = self.errand(rows)

    # What is asked of a machine.
    def waiting(self):
        return self.want

    def outcome(self):
        return self.end

    def scopes(self):
        return [frame["scope"] for frame in self.stack if frame["scope"] is not None]

    def is_marked(self, scope):
        return scope in self.words and scope in self.scopes()

    def target(self):
        hiding = [place for place, frame in enumerate(self.stack) if frame["hides"]]
        seen = self.stack[hiding[-1]:] if hiding else self.stack
        marked = [frame["scope"] for frame in seen if frame["scope"] in self.words]
        return marked[0] if marked else None

    def strikable(self):
        return self.want is not None and self.want[0] != "halt" and self.target() is not None

    def might(self):
        if self.end is not None:
            return []
        return sorted(set(pairs_in([row for frame in self.stack for row in list(frame["rest"]) + list(frame["others"])])))

    # What is told to it.
    def mark(self, scope, word):
        if scope in self.scopes():
            self.words.setdefault(scope, word)

    def strike(self):
        self.want, self.reply = None, "struck"

    def go(self, value=None):
        if self.want[0] in ("take", "ask"):
            self.values[self.want[3]] = value
        self.want, self.reply = None, None

    def raised(self, fault):
        self.want, self.reply = None, fault

    def joined(self, faults):
        self.want, self.reply = None, faults

    def step(self):
        return next(self.doing)

    # How it is done.
    def value(self, value):
        return self.values.get(value, 0) if isinstance(value, str) and value[0] != ":" else value

    def errand(self, rows):
        try:
            yield from self.rows(rows)
            outcome = ("value", self.given)
        except Faults as signal:
            outcome = ("faults", signal.faults)
        except Strike:
            outcome = (self.words[0],)
        self.end = outcome
        yield ("ended", 0, outcome)

    def push(self, scope=None, name=None, hides=False, rest=(), others=()):
        self.stack.append({"scope": scope, "name": name, "hides": hides, "rest": rest, "others": others})
        return self.stack[-1]

    def rows(self, rows, again=False):
        frame = self.stack[-1]
        frame["rest"] = rows
        for place, row in enumerate(rows):
            frame["rest"] = rows if again else rows[place + 1:]
            yield from self.row(row)

    def leave(self, height):
        """Back to a height of the stack, as a signal goes out or rows are done."""
        for frame in self.stack[height:]:
            self.words.pop(frame["scope"], None)
        self.stack = self.stack[:height]

    def row(self, row):
        word, line = row[:2]
        if word in ("wait", "hear", "take", "ask"):
            yield from self.wait(row)
        elif word in ("let", "give"):
            if word == "let":
                self.values[row[2]] = self.value(row[3])
            else:
                self.given = self.value(row[2])
            yield ("did", line)
        elif word == "ring":
            yield row
        elif word == "send":
            yield ("send", line, row[2], self.value(row[3]))
        elif word == "raise":
            yield row
            raise Faults((row[2],))
        elif word == "begin":
            yield ("begin", line, row[2], row[3], self.group_of(row[4]), row[5])
        elif word == "off":
            yield ("off", line, self.group_of(row[2]) or row[2])
        elif word == "group":
            yield from self.group(row, len(self.stack))
        elif word == "limit":
            yield from self.limit(row, len(self.stack))
        else:
            yield from self.block(row, len(self.stack))

    def group_of(self, name):
        scopes = [frame["scope"] for frame in self.stack if frame["name"] == name]
        return scopes[-1] if scopes else None

    def wait(self, want):
        if self.target() is not None:
            raise Strike(self.target())
        self.want = want
        yield want
        if self.reply == "struck":
            raise Strike(self.target())
        if isinstance(self.reply, str):
            raise Faults((self.reply,))

    def block(self, row, height):
        word, line = row[:2]
        parts = [field for field in row if isinstance(field, tuple)]
        if word == "when":
            if self.value(row[2]) == self.value(row[3]):
                self.push(rest=parts[0])
                yield ("did", line)
                yield from self.rows(parts[0])
            else:
                yield ("did", line)
        elif word == "repeat":
            self.push(rest=parts[0])
            yield ("did", line)
            for number in range(row[2]):
                yield from self.rows(parts[0], number < row[2] - 1)
        elif word == "keep":
            self.push(hides=True, rest=parts[0])
            yield ("did", line)
            yield from self.rows(parts[0])
        elif word == "try":
            yield from self.tried(row, height)
        else:
            yield from self.done(row, height)
        self.leave(height)

    def tried(self, row, height):
        self.push(rest=row[2], others=row[4])
        yield ("did", row[1])
        try:
            yield from self.rows(row[2])
            return
        except Faults as signal:
            if row[3] not in ("any", signal.faults[0]):
                raise
            faults = signal.faults
        self.leave(height)
        self.push(rest=row[4])
        yield ("caught", row[1], faults)
        yield from self.rows(row[4])

    def done(self, row, height):
        self.push(rest=row[2], others=row[3])
        yield ("did", row[1])
        held = None
        try:
            yield from self.rows(row[2])
        except (Strike, Faults) as signal:
            held = signal
        self.leave(height)
        self.push(hides=True, rest=row[3])
        yield ("clean", row[1])
        yield from self.rows(row[3])
        if held is not None:
            raise held

    def next_scope(self):
        self.numbers += 1
        return self.numbers

    def limit(self, row, height):
        scope = self.next_scope()
        self.push(scope=scope, rest=row[3], others=row[4])
        yield ("limit", row[1], scope, row[2])
        try:
            yield from self.rows(row[3])
            self.leave(height)
            return
        except Strike as signal:
            if signal.scope != scope:
                raise
        self.leave(height)
        self.push(rest=row[4])
        yield ("late", row[1], scope)
        yield from self.rows(row[4])
        self.leave(height)

    def group(self, row, height):
        scope = self.next_scope()
        self.push(scope=scope, name=row[2], rest=row[3])
        yield ("group", row[1], scope)
        held = None
        try:
            yield from self.rows(row[3])
            yield from self.wait(("join", row[1], scope))
        except (Strike, Faults) as signal:
            self.leave(height + 1)
            self.stack[-1]["rest"] = ()
            held = signal if isinstance(signal, Strike) else None
            self.want = ("halt", row[1], scope, () if held else signal.faults)
        if self.want is not None:
            yield self.want
        self.leave(height)
        faults = self.reply
        yield ("left", row[1], scope)
        if faults:
            raise Faults(faults)
        if held is not None and held.scope != scope:
            raise held


# A night by another way: whoever waits is found anew each time, by what its errand's machine waits at and since when.
class ModelNight:
    def __init__(self, program, events=(), picks=()):
        self.program = {errand[2]: errand[3] for errand in program}
        self.events, self.picks = list(events), list(picks)
        self.tick, self.count = 0, 0
        self.errands, self.groups, self.letters, self.dues = [], {}, [], []
        self.ready, self.rows, self.marked, self.woken = [], [], [], []
        self.begin(program[-1][2], None, None, None)

    def begin(self, name, owner, scope, label):
        self.errands.append({"name": name, "machine": ModelMachine(self.program[name]), "owner": owner,
                             "scope": scope, "label": label, "since": 0, "asks": None})
        self.wake(len(self.errands) - 1)
        return len(self.errands) - 1

    def machine(self, number):
        return self.errands[number]["machine"]

    def wake(self, number):
        self.ready.append(number)
        self.woken.append(number)

    def next_count(self):
        self.count += 1
        return self.count

    def outcome(self, number):
        return self.machine(number).outcome()

    # Who may do the next step.
    def choices(self):
        event = [self.events[0][0]] if self.events else []
        due = [min(self.dues)[0]] if self.dues else []
        if self.outcome(0) is not None:
            return []
        if event and event[0] <= self.tick:
            return ["outside"]
        if due == [self.tick]:
            return ["clock"]
        if self.ready:
            return list(self.ready)
        first = min([(time, 0, "outside") for time in event] + [(time, 1, "clock") for time in due], default=None)
        return [first[2]] if first else []

    def step(self):
        some = self.choices()
        if not some:
            return None
        if type(some[0]) is str:
            return self.does(some[0])
        return self.does(some[(self.picks.pop(0) if self.picks else 0) % len(some)])

    def run(self):
        while self.step() is not None:
            pass
        return list(self.rows)

    def does(self, who):
        self.marked, self.woken = [], []
        if who == "outside":
            deed = self.outside()
        elif who == "clock":
            deed = self.clock()
        else:
            deed = self.errand(who)
        self.rows.append((self.tick, who, deed, tuple(self.marked), tuple(self.woken)))
        return self.rows[-1]

    def outside(self):
        event = self.events.pop(0)
        self.tick = max(self.tick, event[0])
        if event[1] == "off":
            if event[2] < len(self.errands):
                self.mark(event[2], 0, "off")
        else:
            self.ring_or_send(event[1:])
        return event[1:]

    def clock(self):
        due = min(self.dues)
        self.dues.remove(due)
        self.tick = due[0]
        if due[3] == "wait":
            self.serve(due[2])
            return ("woke", due[2])
        self.mark(due[2], due[3], "late")
        return ("late", due[2], due[3])

    def errand(self, who):
        self.ready.remove(who)
        want = self.machine(who).step()
        self.errands[who]["since"] = self.next_count()
        open_ones = self.machine(who).scopes() if self.outcome(who) is None else []
        self.dues = [due for due in self.dues if due[2] != who or due[3] == "wait" or due[3] in open_ones]
        self.effect(who, want)
        if self.machine(who).waiting() is None and self.outcome(who) is None:
            self.ready.append(who)
        return want

    # What comes by a want.
    def ring_or_send(self, deed):
        word, name = ("hear", deed[1]) if deed[0] == "ring" else ("take", deed[1])
        waiting = sorted([(one["since"], number) for number, one in enumerate(self.errands)
                          if one["machine"].waiting() and one["machine"].waiting()[:3:2] == (word, name)])
        if deed[0] == "ring":
            for since, number in waiting:
                self.serve(number)
        elif waiting:
            self.serve(waiting[0][1], deed[2])
        else:
            self.letters.append((name, deed[2]))

    def serve(self, number, value=None):
        self.machine(number).go(value)
        self.errands[number]["asks"] = None
        self.wake(number)

    def due(self, ticks, number, what):
        self.dues.append((self.tick + ticks, self.next_count(), number, what))

    def effect(self, who, want):
        word, machine = want[0], self.machine(who)
        if word in ("ring", "send"):
            self.ring_or_send((word,) + want[2:])
        elif word == "wait":
            self.due(want[2], who, "wait")
        elif word == "limit":
            self.due(want[3], who, want[2])
        elif word == "take":
            there = [letter for letter in self.letters if letter[0] == want[2]]
            if there:
                self.letters.remove(there[0])
                machine.go(there[0][1])
        elif word == "ask":
            self.ask(who, want[2])
        elif word == "begin":
            number = self.begin(want[3], who, want[4], want[2])
            if want[5]:
                self.due(want[5], number, 0)
            if self.groups[who, want[4]]["off"]:
                self.mark(number, 0, "off")
        elif word == "off" and isinstance(want[2], int):
            self.call_off(who, want[2])
        elif word == "off":
            number = self.newest(who, want[2])
            if number is not None:
                self.mark(number, 0, "off")
        elif word == "group":
            self.groups[who, want[2]] = {"off": False, "faults": ()}
        elif word == "left":
            self.groups.pop((who, want[2]))
        elif word in ("join", "halt"):
            if word == "halt":
                self.groups[who, want[2]]["faults"] += want[3]
                self.call_off(who, want[2])
            self.tell_owner(who, want[2])
        elif word == "ended":
            self.ended(who, want[2])

    def alive(self, owner, scope):
        return [number for number, one in enumerate(self.errands)
                if (one["owner"], one["scope"]) == (owner, scope) and one["machine"].outcome() is None]

    def newest(self, owner, label):
        told = [number for number, one in enumerate(self.errands) if one["owner"] == owner and one["label"] == label
                and (owner, one["scope"]) in self.groups]
        return told[-1] if told else None

    def told(self, number):
        outcome = self.outcome(number)
        return {"value": lambda: outcome[1], "faults": lambda: ":" + outcome[1][0]}.get(
            outcome[0], lambda: ":" + outcome[0])()

    def ask(self, who, label):
        number = self.newest(who, label)
        if number is None:
            self.machine(who).raised("nobody")
        elif self.outcome(number) is not None:
            self.machine(who).go(self.told(number))
        else:
            self.errands[who]["asks"] = number

    def call_off(self, owner, scope):
        group = self.groups[owner, scope]
        if not group["off"]:
            group["off"] = True
            self.mark(owner, scope, "off")
            for number in self.alive(owner, scope):
                self.mark(number, 0, "off")

    def mark(self, number, scope, word):
        machine = self.machine(number)
        if machine.outcome() is None and scope in machine.scopes() and not machine.is_marked(scope):
            machine.mark(scope, word)
            self.marked.append((number, scope, word))
            if machine.strikable():
                self.dues = [due for due in self.dues if due[2:] != (number, "wait")]
                self.errands[number]["asks"] = None
                machine.strike()
                self.wake(number)

    def tell_owner(self, owner, scope):
        """Whether nobody of the group is alive; then its owner is told its faults."""
        if self.alive(owner, scope):
            return False
        self.machine(owner).joined(self.groups[owner, scope]["faults"])
        return True

    def ended(self, who, outcome):
        one = self.errands[who]
        self.dues = [due for due in self.dues if due[2] != who]
        for number, other in enumerate(self.errands):
            if other["asks"] == who:
                self.serve(number, self.told(who))
        if one["owner"] is None:
            return
        if outcome[0] == "faults":
            self.groups[one["owner"], one["scope"]]["faults"] += outcome[1]
            self.call_off(one["owner"], one["scope"])
        want = self.machine(one["owner"]).waiting()
        if want and want[0] in ("join", "halt") and want[2] == one["scope"]:
            if self.tell_owner(one["owner"], one["scope"]):
                self.wake(one["owner"])

    # What is told of a night.
    def tree(self, who=0):
        scopes = sorted([scope for owner, scope in self.groups if owner == who])
        return (who, tuple([(scope, self.groups[who, scope]["off"],
                             tuple([self.tree(number) for number in self.alive(who, scope)])) for scope in scopes]))

    def all_pairs(self, pairs):
        told = set(pairs)
        for word, name in pairs:
            if word == "begin":
                told |= self.all_pairs(pairs_in(self.program[name]))
        return told

    def knot(self):
        waits = {}
        for number, one in enumerate(self.errands):
            want = one["machine"].waiting()
            if want is not None and want[0] != "wait":
                pair = ({"hear": "ring", "take": "send"}.get(want[0]), want[2])
                waits[number] = [other for other in range(len(self.errands))
                                 if pair in self.all_pairs(self.machine(other).might())]
                if want[0] == "ask":
                    waits[number] = [one["asks"]]
                if want[0] in ("join", "halt"):
                    waits[number] = self.alive(number, want[2])
        members = set(waits)
        while [one for one in members if not waits[one] or not set(waits[one]) <= members]:
            members = set([one for one in members if waits[one] and set(waits[one]) <= members])
        way, one = [], min(members, default=None)
        while members and one not in way:
            way.append(one)
            one = min(waits[one])
        return (sorted(members), way[way.index(one):] if members else [], sorted(set(waits) - members))


# Rows and programs made by a fixed row of chances; names are few, so that errands meet one another.
class Maker:
    bells, boxes, names, faults = ("bell", "chime"), ("post", "desk"), ("x", "y"), ("lost", "torn")

    def __init__(self, seed):
        self.chance = random.Random(seed)

    def value(self):
        return self.chance.choice(("0", "1", "7", "x", "y", ":go", ":off", ":lost"))

    def plain(self, clean=False):
        chance = self.chance
        rows = [
            f"wait {chance.choice((1, 2, 3, 5))}", f"ring {chance.choice(self.bells)}",
            f"send {chance.choice(self.boxes)} {self.value()}", f"let {chance.choice(self.names)} {self.value()}",
        ]
        if not clean:
            rows += [
                f"hear {chance.choice(self.bells)}", f"take {chance.choice(self.boxes)} {chance.choice(self.names)}",
                f"wait {chance.choice((1, 4, 9))}",
            ]
            if chance.randint(0, 2) == 0:
                rows.append(f"raise {chance.choice(self.faults)}")
        return chance.choice(rows)

    def labelled(self, groups):
        """A row about errands in groups; groups are the names of those round it."""
        chance, label = self.chance, self.chance.choice(self.labels)
        rows = [f"ask {label} {chance.choice(self.names)}", f"off {label}"]
        if groups:
            within = chance.choice(("", "", f" within {chance.choice((1, 3, 6))}"))
            rows += [f"begin {label} {chance.choice(self.ahead)} in {chance.choice(groups)}" + within] * 3
            rows += [f"off {chance.choice(groups)}"]
        return chance.choice(rows)

    def block(self, deep, groups, clean):
        chance = self.chance
        kinds = ["when", "repeat"] if clean else ["group", "group", "limit", "limit", "keep", "try", "do", "when", "repeat"]
        kind = chance.choice(kinds)
        free = [name for name in ("g", "h", "k") if name not in groups]
        if kind == "group" and not free:
            kind = "keep"
        if kind == "group":
            name = chance.choice(free)
            return ["group " + name] + self.rows(deep, groups + [name], clean) + ["end"]
        head = {"limit": f"limit {chance.choice((1, 2, 4, 7))}", "when": f"when {chance.choice(self.names)} {self.value()}",
                "repeat": f"repeat {chance.choice((1, 2, 3))}"}.get(kind, kind)
        lines = [head] + self.rows(deep, groups, clean)
        # So that limits come and faults are caught often enough.
        if kind == "limit" and chance.randint(0, 2):
            lines.append(chance.choice(("wait 9", "hear bell", "take post x")))
        if kind == "try" and chance.randint(0, 1):
            lines.append("raise " + chance.choice(self.faults))
        if kind == "limit" and chance.randint(0, 1):
            lines += ["late", self.plain()] + self.rows(deep, groups, clean)
        if kind == "try":
            lines += ["but " + chance.choice(("any",) + self.faults)] + self.rows(deep, groups, clean)
        if kind == "do":
            lines += ["last"] + self.rows(deep, groups, True)
        return lines + ["end"]

    def rows(self, deep, groups, clean):
        lines = []
        for place in range(self.chance.choice((0, 1, 2, 2, 3, 4))):
            kind = self.chance.randint(0, 9)
            if kind < 4 and deep > 0:
                lines += self.block(deep - 1, groups, clean)
            elif kind < 7 and not clean and self.labels:
                lines.append(self.labelled(groups))
            else:
                lines.append(self.plain(clean))
        return lines

    def errand(self, name, ahead, deep=4):
        self.ahead, self.labels = ahead, self.chance.choice((("p",), ("p", "q"))) if ahead else ()
        lines = self.rows(deep, [], False)
        if ahead:
            begins = [f"begin {label} {self.chance.choice(ahead)} in g" for label in self.labels]
            lines += ["group g"] + begins + self.rows(deep - 1, ["g"], False) + ["end"] + self.rows(1, [], False)
        if self.chance.randint(0, 1):
            lines.append("give " + self.value())
        return ["errand " + name] + lines + ["end"]

    def text(self):
        names = ["a", "b", "c", "main"][-self.chance.randint(1, 4):]
        lines = []
        for place, name in enumerate(names):
            lines += self.errand(name, names[:place], 3)
        return "\n".join(lines)

    def program(self):
        """One that is let by; most of those that are made are."""
        for trial in range(300):
            program = read(self.text())
            try:
                return look(program)
            except BadProgram:
                continue
        raise AssertionError("none of the programs made was let by")

    def events(self, many=6, ticks=25):
        told, tick = [], 0
        for place in range(self.chance.randint(0, many)):
            tick = min(tick + self.chance.choice((0, 1, 2, 5)), ticks)
            told.append((tick,) + self.chance.choice((
                ("ring", self.chance.choice(self.bells)), ("send", self.chance.choice(self.boxes), 3),
                ("send", self.chance.choice(self.boxes), ":go"), ("off", self.chance.randint(0, 6)),
            )))
        return told

    def picks(self):
        return [self.chance.randint(0, 30) for place in range(self.chance.choice((0, 5, 20, 60)))]
