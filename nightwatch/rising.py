"""Nights that come up again from the first rows of their books."""

from nightwatch.errors import BadBook, Over
from nightwatch.nights import Night
from nightwatch.rows import is_name, is_value

MOST_NUMBER = 9999


def is_number(thing):
    return isinstance(thing, int) and not isinstance(thing, bool) and 0 <= thing <= MOST_NUMBER


def is_event_deed(deed):
    if deed[0] == "ring":
        return len(deed) == 2 and is_name(deed[1])
    if deed[0] == "send":
        return len(deed) == 3 and is_name(deed[1]) and is_value(deed[2]) and not is_name(deed[2])
    return deed[0] == "off" and len(deed) == 2 and is_number(deed[1])


def events_told(rows):
    told = []
    for row in rows:
        if row[1] != "outside":
            continue
        if not is_event_deed(row[2]):
            return told
        told.append((row[0],) + row[2])
    return told


def does_row(night, row):
    try:
        return night.does(row[1]) == row
    except Over:
        return False


def risen(program, rows, events=None, picks=None):
    more = [] if events is None else list(events)
    night = Night(program, events_told(rows) + more, picks)
    for place, row in enumerate(rows):
        if not does_row(night, row):
            raise BadBook(place)
    return night
