"""Night books as texts, a line for each row, and back again."""

from nightwatch.errors import BadBook
from nightwatch.reader import bounded, first_fit, value_of
from nightwatch.rows import is_name

# Words in capitals are what stands there; all others stand for themselves.
ERRAND_FORMS = (
    "did LINE", "clean LINE", "ring LINE NAME", "hear LINE NAME", "send LINE NAME TOLD", "raise LINE NAME",
    "begin LINE NAME NAME SCOPE WITHIN", "off LINE SCOPE", "off LINE NAME", "group LINE SCOPE", "join LINE SCOPE",
    "left LINE SCOPE", "late LINE SCOPE", "limit LINE SCOPE TICKS", "wait LINE TICKS", "take LINE NAME NAME",
    "ask LINE NAME NAME", "halt LINE SCOPE NOTED", "caught LINE FAULTS",
)
CLOCK_FORMS = ("woke ERRAND", "late ERRAND SCOPE")
OUTSIDE_FORMS = ("ring NAME", "send NAME TOLD", "off NUMBER")
OUTCOME_FORMS = ("value TOLD", "faults FAULTS", "off", "late")
MARK_FORMS = ("ERRAND SCOPE off", "ERRAND SCOPE late")

# The least and the greatest number that may stand there.
BOUNDS = {
    "TICK": (0, 99999), "LINE": (0, 99999), "SCOPE": (0, 999), "ERRAND": (0, 99), "NUMBER": (0, 9999),
    "WITHIN": (0, 99), "TICKS": (1, 99),
}
NONE = "-"
STROKE = "/"


def faults_text(faults):
    return NONE if faults == () else ",".join(faults)


def outcome_text(outcome):
    if outcome[0] == "value":
        return "value " + str(outcome[1])
    if outcome[0] == "faults":
        return "faults " + faults_text(outcome[1])
    return outcome[0]


def part_text(word, part):
    if not isinstance(part, tuple):
        return str(part)
    return outcome_text(part) if word == "ended" else faults_text(part)


def deed_text(deed):
    return " ".join([part_text(deed[0], part) for part in deed])


def words_text(words):
    return NONE if len(words) == 0 else " ".join([str(word) for word in words])


def marked_text(marks):
    words = []
    for mark in marks:
        words.extend(mark)
    return words_text(words)


def row_text(row):
    words = [str(row[0]), str(row[1]), deed_text(row[2]), STROKE, marked_text(row[3]), STROKE, words_text(row[4])]
    return " ".join(words)


def booktext(rows):
    return "".join([row_text(row) + "\n" for row in rows])


def told_value_of(word):
    value = value_of(word)
    return None if is_name(value) else value


def faults_of_word(word):
    faults = word.split(",")
    return tuple(faults) if all([is_name(fault) for fault in faults]) else None


def field_at(slot, word):
    if slot in BOUNDS:
        return bounded(word, BOUNDS[slot][0], BOUNDS[slot][1])
    if slot == "NAME":
        return word if is_name(word) else None
    if slot == "TOLD":
        return told_value_of(word)
    if slot == "NOTED" and word == NONE:
        return ()
    if slot in ("NOTED", "FAULTS"):
        return faults_of_word(word)
    return word if word == slot else None


def tuple_of(forms, words):
    fields = first_fit(forms, words, field_at)
    return None if fields is None else tuple(fields)


def who_of(word):
    return word if word in ("clock", "outside") else field_at("ERRAND", word)


def ended_of(words):
    if len(words) < 2:
        return None
    line = field_at("LINE", words[1])
    outcome = tuple_of(OUTCOME_FORMS, words[2:])
    return None if None in (line, outcome) else ("ended", line, outcome)


def deed_of(who, words):
    if who == "clock":
        return tuple_of(CLOCK_FORMS, words)
    if who == "outside":
        return tuple_of(OUTSIDE_FORMS, words)
    if words[0] == "ended":
        return ended_of(words)
    return tuple_of(ERRAND_FORMS, words)


def all_or_none(fields):
    return None if fields == [] or None in fields else tuple(fields)


def marked_of(words):
    if words == [NONE]:
        return ()
    return all_or_none([tuple_of(MARK_FORMS, words[place:place + 3]) for place in range(0, len(words), 3)])


def woken_of(words):
    if words == [NONE]:
        return ()
    return all_or_none([field_at("ERRAND", word) for word in words])


def row_of_line(line):
    words = line.split(" ")
    if words.count(STROKE) != 2 or words.index(STROKE) < 3:
        return None
    first = words.index(STROKE)
    second = words.index(STROKE, first + 1)
    who = who_of(words[1])
    row = (field_at("TICK", words[0]), who, deed_of(who, words[2:first]),
           marked_of(words[first + 1:second]), woken_of(words[second + 1:]))
    return None if None in row else row


def read_book(text):
    lines = text.split("\n")
    # What stands behind the last line end is no line, and has to be nothing.
    behind = lines.pop()
    rows = []
    for place, line in enumerate(lines):
        row = row_of_line(line)
        if row is None:
            raise BadBook(place)
        rows.append(row)
    if behind != "":
        raise BadBook(len(lines))
    return tuple(rows)
