"""The whole promise over whole nights, from a text to its book [0.1], [0.3], [2.4]."""

import unittest
from collections import Counter

from model import Maker
from nightwatch.booktexts import booktext, read_book
from nightwatch.looker import look
from nightwatch.nights import Night
from nightwatch.reader import read
from nightwatch.rising import risen
from nightwatch.rows import parts, walk
from nightwatch.weights import begun, weight
from nightwatch.writer import written

ROW_WORDS = ("did", "ring", "send", "raise", "begin", "off", "group", "limit", "wait", "hear", "take", "ask")
WAITING = ("wait", "hear", "take", "ask")


def hidden_lines(rows, hidden=False):
    """The lines of rows that stand in a keep or in a clean-up."""
    told = []
    for row in rows:
        if hidden:
            told.append(row[1])
        for place, part in enumerate(parts(row)):
            told.extend(hidden_lines(part, hidden or row[0] == "keep" or (row[0] == "do" and place == 1)))
    return told


# A night that is over, and what its book tells of each errand, one row behind the other.
class Past:
    def __init__(self, maker):
        self.program = maker.program()
        self.text = written(self.program)
        self.events, self.picks = maker.events(), maker.picks()
        self.night = Night(self.program, self.events, self.picks)
        self.book = self.night.run()
        self.names = self.night.errands()

    def rows_of(self, number):
        return [(place, row) for place, row in enumerate(self.book) if type(row[1]) is int and row[1] == number]

    def members(self):
        """From each group, its owner and scope, to the list of errands begun in it."""
        told, number = {}, 0
        for row in self.book:
            if type(row[1]) is int and row[2][0] == "group":
                told[row[1], row[2][2]] = []
            if type(row[1]) is int and row[2][0] == "begin":
                number += 1
                told[row[1], row[2][4]].append(number)
        return told

    def deeds(self, word):
        return [row for row in self.book if row[2][0] == word and type(row[1]) is int]


class WholeTests(unittest.TestCase):
    @classmethod
    def setUpClass(cls):
        maker = Maker(3)
        cls.pasts = [Past(maker) for place in range(400)]

    def each(self, check):
        for place, past in enumerate(self.pasts):
            with self.subTest(place=place, text=past.text):
                check(past)

    def test_a_a_group_is_left_when_all_of_it_has_ended(self):
        self.each(self.check_groups)

    def check_groups(self, past):
        for (owner, scope), numbers in past.members().items():
            left = [place for place, row in past.rows_of(owner) if row[2][0] == "left" and row[2][2] == scope]
            self.assertLessEqual(len(left), 1)
            for number in numbers:
                rows = past.rows_of(number)
                if left:
                    self.assertEqual(rows[-1][1][2][0], "ended")
                    self.assertLess(rows[-1][0], left[0])
            if past.night.outcome(owner) is not None:
                self.assertEqual(len(left), 1)

    def test_b_an_errand_ends_at_most_once(self):
        self.each(self.check_ends)

    def check_ends(self, past):
        for number in range(len(past.names)):
            rows = [row for place, row in past.rows_of(number)]
            ends = [row[2][2] for row in rows if row[2][0] == "ended"]
            self.assertEqual(ends, [past.night.outcome(number)] if past.night.outcome(number) else [])
            if ends:
                self.assertEqual(rows[-1][2][0], "ended")
                self.assertIn(ends[0][0], ("value", "faults", "off", "late"))

    def test_c_no_fault_is_lost(self):
        self.each(self.check_faults)

    def check_faults(self, past):
        raised = Counter([row[2][2] for row in past.deeds("raise")])
        told = Counter([fault for row in past.deeds("caught") for fault in row[2][2]])
        outcome = past.night.outcome(0)
        if outcome is not None:
            told += Counter(outcome[1] if outcome[0] == "faults" else ())
            told["nobody"] = raised["nobody"] = 0
            self.assertEqual(+told, +raised)
        else:
            told["nobody"] = 0
            self.assertEqual(+(told - raised), Counter())

    def test_c_faults_of_an_end_are_in_the_owner_s_when_the_group_is_left(self):
        self.each(self.check_faults_of_groups)

    def check_faults_of_groups(self, past):
        for (owner, scope), numbers in past.members().items():
            noted = []
            for row in past.book:
                if row[1] in numbers and type(row[1]) is int and row[2][0] == "ended" and row[2][2][0] == "faults":
                    noted.extend(row[2][2][1])
                if row[1] == owner and type(row[1]) is int and row[2][0] == "halt" and row[2][2] == scope:
                    noted.extend(row[2][3])
            rows = [row for place, row in past.rows_of(owner)]
            places = [place for place, row in enumerate(rows) if row[2][0] == "left" and row[2][2] == scope]
            # Where a clean-up comes first the faults go on behind it.
            if places and noted and rows[places[0] + 1][2][0] != "clean":
                deed = rows[places[0] + 1][2]
                faults = deed[2][1] if deed[0] == "ended" else deed[-1]
                self.assertEqual(faults, tuple(noted))

    def test_d_who_is_marked_does_no_more_waiting_rows_but_hidden_ones(self):
        self.each(self.check_marked)

    def check_marked(self, past):
        rows_by_name = {errand[2]: errand[3] for errand in past.program}
        for number, name in enumerate(past.names):
            marks = [place for place, row in enumerate(past.book) if (number, 0) in [mark[:2] for mark in row[3]]]
            self.assertLessEqual(len(marks), 1)
            hidden = hidden_lines(rows_by_name[name])
            for place, row in past.rows_of(number):
                if marks and place > marks[0] and row[2][0] in WAITING + ("join",):
                    self.assertIn(row[2][1], hidden)

    def test_d_each_clean_up_is_done_once(self):
        self.each(self.check_clean_ups)

    def check_clean_ups(self, past):
        lines = [row[1] for errand in past.program for row in walk(errand[3]) if row[0] == "do"]
        for number in range(len(past.names)):
            deeds = [row[2] for place, row in past.rows_of(number)]
            for line in lines:
                entered, cleaned = deeds.count(("did", line)), deeds.count(("clean", line))
                self.assertIn(entered - cleaned, (0,) if past.night.outcome(number) else (0, 1))

    def test_e_a_limit_comes_at_just_its_time(self):
        self.each(self.check_limits)

    def check_limits(self, past):
        times, number = {}, 0
        for row in past.book:
            if type(row[1]) is int and row[2][0] == "limit":
                times[row[1], row[2][2]] = row[0] + row[2][3]
            if type(row[1]) is int and row[2][0] == "begin":
                number += 1
                times[number, 0] = row[0] + row[2][5] if row[2][5] else None
            if row[1] == "clock" and row[2][0] == "late":
                self.assertEqual(row[0], times[row[2][1:]])
                self.assertIn(row[3], ((), (row[2][1:] + ("late",),)))
            elif [mark for mark in row[3] if mark[2] == "late"]:
                self.fail("a late mark by another one than the clock")
        for row in past.deeds("late"):
            self.assertGreaterEqual(row[0], times[row[1], row[2][2]])

    def test_f_bells_and_letters(self):
        self.each(self.check_bells_and_letters)

    def check_bells_and_letters(self, past):
        waiting, letters = [], Counter()
        for row in past.book:
            deed = row[2][:1] + row[2][2:] if type(row[1]) is int else row[2]
            if deed[0] == "ring":
                self.assertEqual(row[4], tuple([who for who, word, name in waiting if (word, name) == ("hear", deed[1])]))
            if deed[0] == "send":
                takers = [who for who, word, name in waiting if (word, name) == ("take", deed[1])]
                self.assertEqual(row[4], tuple(takers[:1]))
                letters[deed[1]] += not takers
            waiting = [one for one in waiting if one[0] not in row[4]]
            if deed[0] in ("hear", "take"):
                if deed[0] == "take" and letters[deed[1]]:
                    letters[deed[1]] -= 1
                else:
                    waiting.append((row[1], deed[0], deed[1]))

    def test_g_the_night_is_over_when_nothing_can_be_done(self):
        self.each(self.check_over)

    def check_over(self, past):
        night = past.night
        self.assertEqual((night.over(), night.choices(), night.step()), (True, [], None))
        open_ones = [number for number in range(len(past.names)) if night.outcome(number) is None]
        if night.outcome(0) is not None:
            self.assertEqual(open_ones, [])
            return
        self.assertEqual(len([row for row in past.book if row[1] == "outside"]), len(past.events))
        self.assertEqual(night.ready(), [])
        for number in open_ones:
            self.assertNotIn(night.waiting(number)[0], ("wait",))
        knot, way, idle = night.knot()
        self.assertEqual(sorted(knot + idle), open_ones)
        self.assertTrue(set(way) <= set(knot))

    def test_h_the_same_night_comes_up(self):
        self.each(self.check_up)

    def check_up(self, past):
        text = booktext(past.book)
        self.assertEqual(read_book(text), tuple(past.book))
        lines = text.split("\n")[:-1]
        for many in sorted(set([0, 1, len(lines) // 3, len(lines) // 2, len(lines)])):
            rows = read_book("".join([line + "\n" for line in lines[:many]]))
            from_outside = len([row for row in rows if row[1] == "outside"])
            of_errands = len([row for row in rows if type(row[1]) is int])
            night = risen(past.program, rows, past.events[from_outside:], past.picks[of_errands:])
            self.assertEqual(night.book(), past.book[:many])
            self.assertEqual(booktext(night.run()), text)
            self.assertEqual((night.tree(), night.knot(), night.now()),
                             (past.night.tree(), past.night.knot(), past.night.now()))

    def test_ticks_never_fall_and_events_come_in_their_order(self):
        self.each(self.check_ticks)

    def check_ticks(self, past):
        ticks = [row[0] for row in past.book]
        self.assertEqual(ticks, sorted(ticks))
        events = [(row[0],) + row[2] for row in past.book if row[1] == "outside"]
        self.assertEqual(events, past.events[:len(events)])

    def test_all_that_is_done_is_bounded_ahead(self):
        self.each(self.check_bounds)

    def check_bounds(self, past):
        done = [row for row in past.book if type(row[1]) is int and row[2][0] in ROW_WORDS]
        self.assertLessEqual(len(done) + len(past.names), weight(past.program))
        self.assertLessEqual(len(past.names) - 1, begun(past.program))

    def test_the_same_from_what_is_written(self):
        self.each(self.check_written)

    def check_written(self, past):
        program = look(read(written(past.program)))
        self.assertEqual(Night(program, past.events, past.picks).run(), past.book)


if __name__ == "__main__":
    unittest.main()
