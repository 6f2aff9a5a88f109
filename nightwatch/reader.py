"""Reads a text to a program, line by line."""

from nightwatch.errors import BadRow
from nightwatch.rows import is_block_word, is_name, is_value

# The words of a form stand for themselves, but for NAME, VALUE, N and ROUNDS.
FORMS = (
    "errand NAME",
    "wait N",
    "hear NAME",
    "ring NAME",
    "send NAME VALUE",
    "take NAME NAME",
    "let NAME VALUE",
    "raise NAME",
    "begin NAME NAME in NAME",
    "begin NAME NAME in NAME within N",
    "ask NAME NAME",
    "off NAME",
    "give VALUE",
    "group NAME",
    "limit N",
    "late",
    "keep",
    "try",
    "but NAME",
    "but any",
    "do",
    "last",
    "when NAME VALUE",
    "repeat ROUNDS",
    "end",
)

GREATEST = {"N": 99, "ROUNDS": 9}

# The word behind which a block's other rows stand.
TURNS = {"limit": "late", "try": "but", "do": "last"}
TURN_WORDS = ("late", "but", "last")

MOST_FIGURES = 6
MOST_DEEP = 20


def number_of(word):
    # No number of a row has more figures, so longer words are not counted out.
    if not 1 <= len(word) <= MOST_FIGURES or not all(["0" <= sign <= "9" for sign in word]):
        return None
    if word.startswith("0") and word != "0":
        return None
    return int(word)


def bounded(word, least, greatest):
    number = number_of(word)
    if number is None or not least <= number <= greatest:
        return None
    return number


def value_of(word):
    number = number_of(word)
    value = word if number is None else number
    return value if is_value(value) else None


def field_of(slot, word):
    if slot in GREATEST:
        return bounded(word, 1, GREATEST[slot])
    if slot == "VALUE":
        return value_of(word)
    if slot == "NAME":
        return word if is_name(word) else None
    return word if word == slot else None


def fitted(slots, words, field_at):
    if len(slots) != len(words):
        return None
    fields = [field_at(slot, word) for slot, word in zip(slots, words)]
    return None if None in fields else fields


# The fields of words by the first form that they have, each as field_at tells it of its slot; None without one.
def first_fit(forms, words, field_at):
    for form in forms:
        fields = fitted(form.split(" "), words, field_at)
        if fields is not None:
            return fields
    return None


def row_of(fields, number):
    # "in" and "within" can't be names, so no field of a row is lost here.
    kept = [field for field in fields[1:] if field not in ("in", "within")]
    if fields[0] == "begin" and "within" not in fields:
        kept.append(0)
    return tuple([fields[0], number] + kept)


# An errand or a block whose end is still to come.
class Unended:
    def __init__(self, head):
        self.head = head
        self.rows = []
        self.turned = False
        self.turn_fields = ()
        self.others = []

    def put(self, row):
        if self.turned:
            self.others.append(row)
        else:
            self.rows.append(row)

    def may_turn(self, word):
        return not self.turned and TURNS.get(self.head[0]) == word

    def turn(self, turn_fields):
        self.turned = True
        self.turn_fields = turn_fields

    def may_end(self):
        if self.head[0] == "limit":
            return not self.turned or self.others != []
        return self.turned or self.head[0] not in TURNS

    def whole(self):
        row = self.head + (tuple(self.rows),)
        if self.head[0] in TURNS:
            row = row + self.turn_fields + (tuple(self.others),)
        return row


# What has been read so far: the errands that ended, and what has not ended yet, the outermost first.
class Reading:
    def __init__(self):
        self.program = []
        self.unended = []

    def allows(self, word):
        if self.unended == []:
            return word == "errand"
        innermost = self.unended[-1]
        if word == "end":
            return innermost.may_end()
        if word in TURN_WORDS:
            return innermost.may_turn(word)
        if is_block_word(word):
            # The errand itself is among the unended and counts for no depth.
            return len(self.unended) <= MOST_DEEP
        return word != "errand"

    def put_line(self, fields, number):
        word = fields[0]
        if word == "end":
            self.end_innermost()
        elif word in TURN_WORDS:
            self.unended[-1].turn(tuple(fields[1:]))
        elif word == "errand" or is_block_word(word):
            self.unended.append(Unended(row_of(fields, number)))
        else:
            self.unended[-1].put(row_of(fields, number))

    def end_innermost(self):
        row = self.unended.pop().whole()
        if self.unended == []:
            self.program.append(row)
        else:
            self.unended[-1].put(row)

    def is_whole(self):
        return self.unended == [] and self.program != []


def read(text):
    reading = Reading()
    lines = text.split("\n")
    for number, line in enumerate(lines, start=1):
        words = [word for word in line.split(" ") if word != ""]
        if words == []:
            continue
        fields = first_fit(FORMS, words, field_of)
        if fields is None or not reading.allows(fields[0]):
            raise BadRow(number)
        reading.put_line(fields, number)
    if not reading.is_whole():
        raise BadRow(len(lines))
    return tuple(reading.program)
