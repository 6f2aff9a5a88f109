"""The desk: takes rows of text, one by one, and answers each with a list of texts."""

from nightwatch.booktexts import deed_text, field_at, outcome_text, row_text
from nightwatch.errors import BadProgram, BadRow
from nightwatch.looker import look
from nightwatch.nights import Night
from nightwatch.reader import first_fit, number_of, read
from nightwatch.rising import risen

EVENT_FORMS = ("at NUMBER ring NAME", "at NUMBER send NAME TOLD", "at NUMBER off NUMBER")
NOT_UNDERSTOOD = "not understood"


def numbers_line(word, numbers):
    if numbers == []:
        return word + " none"
    return " ".join([word] + [str(number) for number in numbers])


def state_text(night, number):
    if night.outcome(number) is not None:
        return "ended " + outcome_text(night.outcome(number))
    if night.waiting(number) is not None:
        return "waits " + deed_text(night.waiting(number))
    return "ready"


class Desk:
    def __init__(self):
        self.told_lines = []
        self.told_events = []
        self.told_picks = []
        self.program = None
        self.night = None

    def say(self, row):
        answer = self.answer_ahead(row) if self.night is None else self.answer_behind(row.split(" "))
        return [NOT_UNDERSTOOD] if answer is None else answer

    # Of a row that comes ahead of the night; None where it is none of these.
    def answer_ahead(self, row):
        if row == "|" or row.startswith("| "):
            return self.put_text(row[2:])
        if row == "begin":
            return self.begin_night()
        words = row.split(" ")
        if words[0] == "pick" and len(words) == 2:
            return self.put_pick(number_of(words[1]))
        return self.put_event(first_fit(EVENT_FORMS, words, field_at))

    def put_text(self, line):
        self.told_lines.append(line)
        return ["line " + str(len(self.told_lines))]

    def put_pick(self, number):
        if number is None:
            return None
        self.told_picks.append(number)
        return ["pick " + str(len(self.told_picks))]

    def put_event(self, fields):
        if fields is None:
            return None
        event = tuple(fields[1:])
        if self.told_events != [] and event[0] < self.told_events[-1][0]:
            return None
        self.told_events.append(event)
        return ["event " + str(len(self.told_events))]

    def begin_night(self):
        try:
            program = look(read("\n".join(self.told_lines)))
        except BadRow as refusal:
            return ["row " + str(refusal.line)]
        except BadProgram as refusal:
            return [str(refusal.line) + " " + refusal.word]
        self.program = program
        self.night = Night(program, self.told_events, self.told_picks)
        return ["night"]

    # Of a row that comes behind the night's beginning; None where it is none of these.
    def answer_behind(self, words):
        if len(words) == 2:
            return self.answer_counted(words[0], number_of(words[1]))
        if words == ["step"]:
            row = self.night.step()
            return ["over"] if row is None else [row_text(row)]
        if words == ["run"]:
            done = len(self.night.book())
            return [row_text(row) for row in self.night.run()[done:]] + ["over"]
        if words == ["now"]:
            return ["tick " + str(self.night.now())]
        if words == ["who"]:
            return self.who_lines()
        if words == ["knot"]:
            return self.knot_lines()
        return None

    def answer_counted(self, word, number):
        if number is None:
            return None
        if word == "book":
            return [row_text(row) for row in self.night.book()[:number]]
        if word == "rise" and number <= len(self.night.book()):
            return self.rise_from(self.night.book()[:number])
        return None

    def who_lines(self):
        lines = []
        for number, name in enumerate(self.night.errands()):
            lines.append(" ".join([str(number), name, state_text(self.night, number)]))
        return lines

    def knot_lines(self):
        told = self.night.knot()
        return [numbers_line(word, numbers) for word, numbers in zip(("knot", "round", "idle"), told)]

    def rise_from(self, rows):
        from_outside = len([row for row in rows if row[1] == "outside"])
        # At a desk each row of an errand came by a step, and so used one pick up.
        of_errands = len([row for row in rows if isinstance(row[1], int)])
        events = self.told_events[from_outside:]
        self.night = risen(self.program, rows, events, self.told_picks[of_errands:])
        return ["up " + str(len(rows))]
