"""The watchman: does the errands of a night, one row at a time, and writes a book of all that is done."""

from nightwatch.bells import Bells
from nightwatch.boxes import Boxes
from nightwatch.clocks import Clock
from nightwatch.errors import Over
from nightwatch.groups import Groups
from nightwatch.knots import greatest, round_in
from nightwatch.looker import look
from nightwatch.machines import Machine, might_of

# What the clock is told: a wait is due under this word, the time of a scope under late and its number.
WAIT = "wait"
LATE = "late"


def with_begun(pairs, reach):
    told = list(pairs)
    for pair in pairs:
        if pair[0] == "begin":
            told.extend(reach[pair[1]])
    return sorted(set(told))


# From each errand's name to what it may ring, send or begin, what those that it begins may do counted in.
def reach_of(program):
    reach = {}
    for errand in program:
        reach[errand[2]] = with_begun(might_of(errand[3]), reach)
    return reach


def told_of(outcome):
    if outcome[0] == "value":
        return outcome[1]
    return ":" + (outcome[1][0] if outcome[0] == "faults" else outcome[0])


class Night:
    def __init__(self, program, events=None, picks=None):
        look(program)
        self.errand_rows = dict([(errand[2], errand[3]) for errand in program])
        self.reach = reach_of(program)
        self.coming = [] if events is None else list(events)
        self.picks_left = [] if picks is None else list(picks)
        self.clock = Clock()
        self.bells = Bells()
        self.boxes = Boxes()
        self.groups = Groups()
        # By numbers.
        self.names = []
        self.machines = []
        # From who asks to the number whose end it waits for.
        self.asked = {}
        self.queue = []
        self.pages = []
        # What came by the step that is being done.
        self.marked = []
        self.woken = []
        self.come_ready(self.new_errand(program[-1][2]))

    # What is told of the night.

    def choices(self):
        if self.machines[0].outcome() is not None:
            return []
        event_time = None if self.coming == [] else self.coming[0][0]
        if event_time is not None and event_time <= self.clock.now():
            return ["outside"]
        if self.clock.due() is not None:
            return ["clock"]
        if self.queue != []:
            return list(self.queue)
        due_time = self.clock.next_time()
        if event_time is not None and (due_time is None or event_time <= due_time):
            return ["outside"]
        return [] if due_time is None else ["clock"]

    def over(self):
        return self.choices() == []

    def now(self):
        return self.clock.now()

    def book(self):
        return list(self.pages)

    def ready(self):
        return list(self.queue)

    def errands(self):
        return list(self.names)

    def waiting(self, number):
        return self.machine_at(number).waiting()

    def outcome(self, number):
        return self.machine_at(number).outcome()

    def tree(self):
        return self.groups.tree(0)

    def knot(self):
        waits = {}
        for number, machine in enumerate(self.machines):
            want = machine.waiting()
            if want is not None and want[0] != "wait":
                waits[number] = self.servers(number, want)
        members = greatest(waits)
        idle = [number for number in waits if number not in members]
        return (members, round_in(waits, members), sorted(idle))

    def machine_at(self, number):
        if not 0 <= number < len(self.machines):
            raise Over("no errand of this number was begun")
        return self.machines[number]

    def servers(self, number, want):
        if want[0] == "hear":
            return self.who_might(("ring", want[2]))
        if want[0] == "take":
            return self.who_might(("send", want[2]))
        if want[0] == "ask":
            return [self.asked[number]]
        return self.groups.alive(number, want[2])

    def who_might(self, pair):
        told = []
        for number, machine in enumerate(self.machines):
            if pair in with_begun(machine.might(), self.reach):
                told.append(number)
        return told

    # How steps are done.

    def step(self):
        options = self.choices()
        if options == []:
            return None
        if isinstance(options[0], str):
            return self.does(options[0])
        return self.does(options[self.next_pick() % len(options)])

    def run(self):
        while not self.over():
            self.step()
        return self.book()

    def next_pick(self):
        return 0 if self.picks_left == [] else self.picks_left.pop(0)

    def may_do(self, who):
        if isinstance(who, bool) or not isinstance(who, (int, str)):
            return False
        return who in self.choices()

    def does(self, who):
        if not self.may_do(who):
            raise Over("this one may not do the next step")
        self.marked = []
        self.woken = []
        deed = self.deed_of(who)
        row = (self.clock.now(), who, deed, tuple(self.marked), tuple(self.woken))
        self.pages.append(row)
        return row

    def deed_of(self, who):
        if who == "outside":
            return self.deed_from_outside()
        if who == "clock":
            return self.deed_of_clock()
        return self.deed_of_errand(who)

    def deed_from_outside(self):
        event = self.coming.pop(0)
        self.clock.go_to(max(event[0], self.clock.now()))
        if event[1] == "ring":
            self.ring_bell(event[2])
        elif event[1] == "send":
            self.send_letter(event[2], event[3])
        elif event[2] < len(self.machines):
            self.mark_scope(event[2], 0, "off")
        return tuple(event[1:])

    def deed_of_clock(self):
        self.clock.go_to(self.clock.next_time())
        due = self.clock.take()
        if due[2] == WAIT:
            self.serve(due[1])
            return ("woke", due[1])
        scope = int(due[2][len(LATE):])
        self.mark_scope(due[1], scope, "late")
        return ("late", due[1], scope)

    def deed_of_errand(self, who):
        self.queue.remove(who)
        machine = self.machines[who]
        scopes_before = machine.scopes()
        want = machine.step()
        self.drop_left(who, scopes_before)
        self.follow(who, want)
        if machine.waiting() is None and machine.outcome() is None:
            self.queue.append(who)
        return want

    def drop_left(self, who, scopes_before):
        scopes = self.machines[who].scopes()
        for scope in scopes_before:
            if scope not in scopes:
                self.clock.drop(who, f"{LATE}{scope}")

    def due_late(self, ticks, who, scope):
        self.clock.at(self.clock.now() + ticks, who, f"{LATE}{scope}")

    # What others see of an errand's want.
    def follow(self, who, want):
        word = want[0]
        if word == "ring":
            self.ring_bell(want[2])
        elif word == "send":
            self.send_letter(want[2], want[3])
        elif word == "limit":
            self.due_late(want[3], who, want[2])
        elif word == "begin":
            self.begin_errand(who, want)
        elif word == "off":
            self.call_off(who, want[2])
        elif word == "group":
            self.groups.open_group(who, want[2])
        elif word == "left":
            self.groups.close(who, want[2])
        elif word == "ended":
            self.end_errand(who, want[2])
        else:
            self.follow_waiting(who, want)

    def follow_waiting(self, who, want):
        word = want[0]
        if word == "wait":
            self.clock.at(self.clock.now() + want[2], who, WAIT)
        elif word == "hear":
            self.bells.hear(want[2], who)
        elif word == "take":
            self.take_letter(who, want[2])
        elif word == "ask":
            self.ask_newest(who, want[2])
        elif word == "join":
            self.tell_if_joined(who, want[2])
        elif word == "halt":
            self.come_marks(self.groups.note(who, want[2], want[3]))
            self.tell_if_joined(who, want[2])

    def new_errand(self, name):
        self.names.append(name)
        self.machines.append(Machine(self.errand_rows[name]))
        return len(self.machines) - 1

    def come_ready(self, number):
        self.queue.append(number)
        self.woken.append(number)

    def serve(self, number, value=None):
        self.machines[number].go(value)
        self.come_ready(number)

    def ring_bell(self, bell):
        for number in self.bells.ring(bell):
            self.serve(number)

    def send_letter(self, box, letter):
        taker = self.boxes.send(box, letter)
        if taker is not None:
            self.serve(taker, letter)

    def take_letter(self, who, box):
        told = self.boxes.take(box, who)
        if told[0]:
            self.machines[who].go(told[1])

    def ask_newest(self, who, label):
        number = self.groups.newest(who, label)
        if number is None:
            self.machines[who].raised("nobody")
        elif self.groups.result_of(number) is None:
            self.asked[who] = number
        else:
            self.machines[who].go(told_of(self.groups.result_of(number)))

    def begin_errand(self, owner, want):
        number = self.new_errand(want[3])
        is_off_already = self.groups.put_in(owner, want[4], want[2], number)
        self.come_ready(number)
        if want[5] > 0:
            self.due_late(want[5], number, 0)
        if is_off_already:
            self.mark_scope(number, 0, "off")

    def call_off(self, who, scope_or_label):
        if isinstance(scope_or_label, int):
            self.come_marks(self.groups.call_off(who, scope_or_label))
            return
        number = self.groups.newest(who, scope_or_label)
        if number is not None:
            self.mark_scope(number, 0, "off")

    def come_marks(self, marks):
        for mark in marks:
            self.mark_scope(mark[0], mark[1], mark[2])

    def mark_scope(self, number, scope, word):
        machine = self.machines[number]
        if machine.outcome() is not None or scope not in machine.scopes() or machine.is_marked(scope):
            return
        machine.mark(scope, word)
        self.marked.append((number, scope, word))
        if machine.strikable():
            self.strike_errand(number)

    def strike_errand(self, number):
        word = self.machines[number].waiting()[0]
        if word == "wait":
            self.clock.drop(number, WAIT)
        elif word == "hear":
            self.bells.leave(number)
        elif word == "take":
            self.boxes.leave(number)
        elif word == "ask":
            self.asked.pop(number)
        self.machines[number].strike()
        self.come_ready(number)

    # Whether the owner was told the faults of a group in which nobody is alive any more.
    def tell_if_joined(self, owner, scope):
        if self.groups.alive(owner, scope) != []:
            return False
        self.machines[owner].joined(self.groups.faults_of(owner, scope))
        return True

    def end_errand(self, who, outcome):
        self.clock.drop(who)
        for asker in [asker for asker, number in self.asked.items() if number == who]:
            self.asked.pop(asker)
            self.serve(asker, told_of(outcome))
        # Number 0 is in no group.
        if who == 0:
            return
        home = self.groups.home_of(who)
        self.come_marks(self.groups.ended(who, outcome))
        want = self.machines[home[0]].waiting()
        if want is not None and want[0] in ("join", "halt") and want[2] == home[1]:
            if self.tell_if_joined(home[0], home[1]):
                self.come_ready(home[0])
