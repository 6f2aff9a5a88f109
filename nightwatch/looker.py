"""Looks at a program: lets it by, or refuses it for the first thing that is wrong."""

from nightwatch.errors import BadProgram
from nightwatch.rows import parts, walk
from nightwatch.weights import begun, weight

MOST_ERRANDS = 12
MOST_ROWS = 200
MOST_DEEP = 6
MOST_WEIGHT = 300
MOST_BEGUN = 30

# Rows that may stand in a clean-up: none of them can be struck, raise a fault or begin an errand there.
CLEAN_WORDS = ("wait", "ring", "send", "let", "when", "repeat")


# Where a row stands: how deep, whether in a clean-up, in which groups, and whether as the last one of its errand.
class Spot:
    def __init__(self, deep, in_last, groups_round, closing):
        self.deep = deep
        self.in_last = in_last
        self.groups_round = groups_round
        self.closing = closing


def spot_within(row, spot, place):
    in_last = spot.in_last or (row[0] == "do" and place == 1)
    groups_round = spot.groups_round + ((row[2],) if row[0] == "group" else ())
    return Spot(spot.deep + 1, in_last, groups_round, False)


def spots_in(row, spot):
    listed = [(row, spot)]
    for place, part in enumerate(parts(row)):
        inner_spot = spot_within(row, spot, place)
        for inner in part:
            listed.extend(spots_in(inner, inner_spot))
    return listed


def spots_of(rows):
    listed = []
    for place, row in enumerate(rows):
        listed.extend(spots_in(row, Spot(0, False, (), place == len(rows) - 1)))
    return listed


# The names of an errand by which its rows are looked at.
class Naming:
    def __init__(self, rows, ahead):
        self.ahead = ahead
        self.labels = [row[2] for row in walk(rows) if row[0] == "begin"]
        self.group_names = [row[2] for row in walk(rows) if row[0] == "group"]


def is_bad_group(row, spot):
    if row[0] == "begin":
        return row[4] not in spot.groups_round
    return row[0] == "group" and row[2] in spot.groups_round


def is_bad_label(row, naming):
    if row[0] == "begin":
        return row[2] in naming.group_names
    return row[0] == "ask" and row[2] not in naming.labels


def is_bad_off(row, spot, naming):
    return row[0] == "off" and row[2] not in naming.labels and row[2] not in spot.groups_round


def wrong_word(row, spot, naming):
    if spot.deep > MOST_DEEP:
        return "deep"
    if spot.in_last and row[0] not in CLEAN_WORDS:
        return "last"
    if row[0] == "give" and not spot.closing:
        return "give"
    if row[0] == "begin" and row[3] not in naming.ahead:
        return "errand"
    if is_bad_group(row, spot):
        return "group"
    if is_bad_label(row, naming):
        return "label"
    if is_bad_off(row, spot, naming):
        return "off"
    return None


def look_at_counts(program):
    if len(program) > MOST_ERRANDS:
        raise BadProgram(program[MOST_ERRANDS][1], "many")
    rows = []
    for errand in program:
        rows.extend(walk(errand[3]))
    if len(rows) > MOST_ROWS:
        raise BadProgram(rows[MOST_ROWS][1], "long")


def look_at_errand(errand, ahead):
    if errand[2] in ahead:
        raise BadProgram(errand[1], "twice")
    naming = Naming(errand[3], ahead)
    for row, spot in spots_of(errand[3]):
        word = wrong_word(row, spot, naming)
        if word is not None:
            raise BadProgram(row[1], word)


def look_at_bounds(program):
    line = program[-1][1]
    if weight(program) > MOST_WEIGHT:
        raise BadProgram(line, "weight")
    if begun(program) > MOST_BEGUN:
        raise BadProgram(line, "begun")


def look(program):
    look_at_counts(program)
    ahead = []
    for errand in program:
        look_at_errand(errand, ahead)
        ahead.append(errand[2])
    look_at_bounds(program)
    return program
