"""Nights that come up again from the first rows of their books [8.3], [8.4]."""

import unittest

from model import Maker
from nightwatch.booktexts import booktext, read_book
from nightwatch.errors import BadBook, BadProgram, WatchError
from nightwatch.nights import Night
from nightwatch.reader import read
from nightwatch.rising import risen

RUN = "errand run\nhear gate\ntake post x\ngive x\nend\n"
TEXT = RUN + """errand main
  group g
    begin a run in g
    begin b run in g
    limit 4
      ask a x
    late
      ring gate
    end
    wait 3
  end
  give x
end"""
EVENTS = [(1, "ring", "none"), (2, "send", "post", 7), (5, "send", "post", ":go"), (5, "off", 9999), (6, "off", 2),
          (90, "ring", "gate")]
PICKS = [0, 0, 1, 1, 0, 2, 5, 1]


def used(rows):
    """How many events and picks a night's rows have used up, all of them done by step."""
    return (len([row for row in rows if row[1] == "outside"]), len([row for row in rows if type(row[1]) is int]))


def all_told(night):
    numbers = range(len(night.errands()))
    return (night.choices(), night.book(), night.now(), night.over(), night.ready(), night.errands(),
            [night.waiting(number) for number in numbers], [night.outcome(number) for number in numbers],
            night.tree(), night.knot())


class RisingCase(unittest.TestCase):
    def refused(self, program, rows, place, events=None):
        before = repr(rows)
        with self.assertRaises(BadBook) as caught:
            risen(program, rows, events)
        self.assertEqual(caught.exception.place, place)
        self.assertIsInstance(caught.exception, WatchError)
        self.assertEqual(repr(rows), before)

    def comes_up(self, program, events, picks):
        """From each number of its first rows the same night comes up, and goes on to the same end."""
        whole = Night(program, events, picks)
        book, last = whole.run(), all_told(whole)
        steady = Night(program, events, picks)
        for many in range(len(book) + 1):
            from_outside, of_errands = used(book[:many])
            rows = tuple(book[:many]) if many % 2 else list(book[:many])
            night = risen(program, rows, events[from_outside:], picks[of_errands:])
            self.assertIsInstance(night, Night)
            self.assertEqual(all_told(night), all_told(steady))
            self.assertEqual(night.run(), book)
            self.assertEqual(all_told(night), last)
            steady.step()


class UpTests(RisingCase):
    def test_a_night_with_events_and_picks(self):
        self.comes_up(read(TEXT), EVENTS, PICKS)
        self.comes_up(read(TEXT), EVENTS, [])
        self.comes_up(read(TEXT), [], PICKS)

    def test_from_none(self):
        program = read("errand main\nhear gate\nend")
        for rows in ((), []):
            night = risen(program, rows)
            self.assertEqual(all_told(night), all_told(Night(program)))
            self.assertEqual(risen(program, rows, [(3, "ring", "gate")]).run(), Night(program, [(3, "ring", "gate")]).run())
            self.assertEqual(risen(program, rows, None, None).run(), Night(program).run())

    def test_from_all(self):
        program = read(TEXT)
        book = Night(program, EVENTS, PICKS).run()
        night = risen(program, book)
        self.assertEqual(night.book(), book)
        self.assertIs(night.over(), True)
        self.assertEqual(risen(program, tuple(book)).book(), book)

    def test_from_a_text(self):
        program = read(TEXT)
        book = Night(program, EVENTS, PICKS).run()
        self.assertEqual(risen(program, read_book(booktext(book))).book(), book)

    def test_rows_that_came_by_does(self):
        program = read(TEXT)
        night = Night(program, EVENTS)
        while not night.over():
            night.does(night.choices()[-1])
        book = night.book()
        self.assertEqual(all_told(risen(program, book)), all_told(done_by_whos(program, book)))

    def test_picks_are_those_behind_the_rows(self):
        ring = "errand run\nring a\nring b\nend\n"
        program = read(ring + "errand main\ngroup g\nbegin a run in g\nbegin b run in g\nend\nend")
        book = Night(program, [], [0, 0, 1]).run()[:3]
        self.assertEqual([row[1] for row in risen(program, book, None, [1, 1]).run()[3:5]], [2, 0])
        self.assertEqual([row[1] for row in risen(program, book, None, [0, 1]).run()[3:5]], [1, 0])
        self.assertEqual([row[1] for row in risen(program, book).run()[3:5]], [1, 2])

    def test_events_come_behind_those_of_the_rows(self):
        program = read("errand main\nrepeat 5\ntake post x\nend\nend")
        rows = Night(program, [(3, "send", "post", 1), (3, "send", "post", 2)]).run()
        self.assertEqual([row[:3] for row in rows[2:4]],
                         [(3, "outside", ("send", "post", 1)), (3, "outside", ("send", "post", 2))])
        night = risen(program, rows[:3], [(4, "send", "post", 8), (9, "send", "post", 9)])
        told = [row[:3] for row in night.run()[3:] if row[1] == "outside"]
        self.assertEqual(told, [(4, "outside", ("send", "post", 8)), (9, "outside", ("send", "post", 9))])

    def test_events_whose_ticks_have_gone_come_at_once(self):
        program = read("errand main\nwait 5\nhear gate\nend")
        rows = Night(program).run()
        night = risen(program, rows[:2], [(6, "ring", "a"), (2, "ring", "gate"), (7, "ring", "gate")])
        self.assertEqual([row[:3] for row in night.run()[2:6]],
                         [(5, 0, ("hear", 3, "gate")), (6, "outside", ("ring", "a")), (6, "outside", ("ring", "gate")),
                          (6, 0, ("ended", 0, ("value", 0)))])

    def test_falling_events_of_the_first_night(self):
        program = read("errand main\ntake post x\ntake post y\nwait 2\ngive y\nend")
        events = [(4, "send", "post", 1), (2, "send", "post", 2), (9, "ring", "a")]
        self.comes_up(program, events, [])

    def test_what_was_handed_in_stays_and_may_be_changed(self):
        program = read(TEXT)
        book = Night(program, EVENTS, PICKS).run()
        rows, events, picks = book[:6], list(EVENTS[used(book[:6])[0]:]), list(PICKS[used(book[:6])[1]:])
        before = repr((rows, events, picks))
        night = risen(program, rows, events, picks)
        self.assertEqual(repr((rows, events, picks)), before)
        rows.clear()
        events.clear()
        picks[:] = [9, 9, 9, 9]
        self.assertEqual(night.run(), book)

    def test_two_side_by_side(self):
        program = read(TEXT)
        book = Night(program, EVENTS, PICKS).run()
        one, two = risen(program, book[:4]), risen(program, book[:4])
        one.run()
        self.assertEqual(two.book(), book[:4])


def done_by_whos(program, rows):
    """The same night, done by its rows' who's."""
    night = Night(program, [(row[0],) + row[2] for row in rows if row[1] == "outside"])
    for row in rows:
        night.does(row[1])
    return night


class RefusedTests(RisingCase):
    def setUp(self):
        self.program = read(TEXT)
        self.book = Night(self.program, EVENTS, PICKS).run()

    def with_row(self, place, row):
        return self.book[:place] + [row] + self.book[place + 1:]

    def test_what_look_refuses_first(self):
        program = read("errand a\noff x\nend")
        for rows in ((), self.book, [(0, 0, ("none",), (), ())]):
            with self.assertRaises(BadProgram) as caught:
                risen(program, rows)
            self.assertEqual((caught.exception.line, caught.exception.word), (2, "off"))

    def test_another_tick(self):
        for place, row in enumerate(self.book):
            if row[1] != "outside":
                self.refused(self.program, self.with_row(place, (row[0] + 1,) + row[1:]), place)

    def test_another_who(self):
        for place, row in enumerate(self.book):
            for who in (55, "clock", "outside", "none", ""):
                if who != row[1] and not (who == "outside" or row[1] == "outside"):
                    self.refused(self.program, self.with_row(place, row[:1] + (who,) + row[2:]), place)

    def test_another_deed_of_an_errand_or_the_clock(self):
        for place, row in enumerate(self.book):
            if row[1] != "outside":
                for deed in (("none",), ("did", 77), row[2] + (1,), row[2][:-1], ("ring", 99, "gate")):
                    self.refused(self.program, self.with_row(place, row[:2] + (deed,) + row[3:]), place)

    def test_other_marks_and_woken_ones(self):
        for place, row in enumerate(self.book):
            self.refused(self.program, self.with_row(place, row[:3] + (row[3] + ((0, 0, "off"),),) + row[4:]), place)
            self.refused(self.program, self.with_row(place, row[:4] + (row[4] + (1,),)), place)
            if row[4]:
                self.refused(self.program, self.with_row(place, row[:4] + ((),)), place)

    def test_a_row_left_out_or_twice(self):
        program = read("errand main\nring a\nring b\nwait 2\nring c\nend")
        book = Night(program).run()
        for place in range(len(book) - 1):
            self.refused(program, book[:place] + book[place + 1:], place)
        for place in range(len(book)):
            self.refused(program, book[:place + 1] + book[place:], place + 1)

    def test_rows_exchanged(self):
        program = read("errand main\nring a\nring b\nwait 2\nring c\nend")
        book = Night(program).run()
        for place in range(len(book) - 1):
            self.refused(program, book[:place] + [book[place + 1], book[place]] + book[place + 2:], place)

    def test_rows_behind_the_end(self):
        program = read("errand main\nend")
        book = Night(program).run()
        for row in book + [(0, "clock", ("woke", 0), (), ()), (0, "outside", ("ring", "a"), (), ())]:
            # The event of a row from outside is due at nought, so it would come ahead of the errand's row.
            self.refused(program, book + [row], 0 if row[1] == "outside" else 1)
        self.refused(program, book + [(9, "outside", ("ring", "a"), (), ())], 1)

    def test_events_that_are_none(self):
        program = read("errand main\ntake post x\ntake post y\nend")
        right = (2, "outside", ("send", "post", 1), (), (0,))
        book = Night(program, [(2, "send", "post", 1)]).run()
        self.assertEqual(book[1], right)
        for deed in (("send", "post"), ("send", "post", "x"), ("send", "end", 1), ("send", "post", 1000000),
                     ("send", "post", -1), ("send", "post", ":"), ("send", "post", 1, 1), ("send", 1, 1),
                     ("send", "post", (1,)), ("ring",), ("ring", "end"), ("ring", "Gate"), ("ring", 5), ("ring", "a", "b"),
                     ("off",), ("off", -1), ("off", 10000), ("off", "a"), ("off", 0, 0), ("off", (0,)), ("woke", 0),
                     ("late", 0, 0), ("did", 1), ("none",), ("take", "post", "x"), ("", "post", 1)):
            with self.subTest(deed=deed):
                self.refused(program, [book[0], (2, "outside", deed, (), ())], 1)
                self.refused(program, [book[0], (2, "outside", deed, (), (0,)), book[1]], 1)
                # Up to that one the events of the rows count.
                self.refused(program, [book[0], book[1], (2, "outside", deed, (), ())], 2)

    def test_an_event_that_is_none_ends_the_rows_events(self):
        program = read("errand main\ntake post x\ntake post y\nend")
        first = (0, 0, ("take", 2, "post", "x"), (), ())
        bad, good = (2, "outside", ("none",), (), ()), (3, "outside", ("ring", "a"), (), ())
        self.refused(program, [first, bad, good], 1)
        self.refused(program, [first, bad, good], 1, [(2, "send", "post", 4)])
        self.refused(program, [first, (2, "outside", ("send", "post", 4), (), ())], 1)

    def test_events_handed_in_come_behind_the_rows_own(self):
        program = read("errand main\nhear gate\nring a\nend")
        rows = Night(program, [(4, "ring", "gate")]).run()
        self.assertEqual(risen(program, rows[:2], [(5, "ring", "b")]).book(), rows[:2])
        # One that would have come ahead of a row that is no event's.
        self.refused(program, rows[:3], 2, [(4, "ring", "b")])
        self.assertEqual(risen(program, rows[:3], [(5, "ring", "b")]).book(), rows[:3])
        self.refused(program, rows[:1], 0, [(0, "ring", "b")])

    def test_of_several_wrong_rows_the_first(self):
        rows = list(self.book)
        for place in (9, 4, 2):
            rows[place] = (rows[place][0], rows[place][1], ("none",), (), ())
            self.refused(self.program, rows, place)

    def test_rows_of_another_program(self):
        other = read(TEXT.replace("limit 4", "limit 3"))
        places = [place for place, row in enumerate(self.book) if row[2][0] == "limit"]
        self.refused(other, self.book, places[0])

    def test_numbers_and_texts_are_told_apart(self):
        program = read("errand main\nring a\nend")
        for who in ("0", 1, -1):
            self.refused(program, [(0, who, ("ring", 2, "a"), (), ())], 0)


class MadeTests(RisingCase):
    def test_made_nights_come_up(self):
        maker = Maker(84)
        for number in range(60):
            program, events, picks = maker.program(), maker.events(), maker.picks()
            with self.subTest(number=number):
                self.comes_up(program, events, picks)

    def test_one_row_otherwise(self):
        maker = Maker(85)
        for number in range(80):
            program, events, picks = maker.program(), maker.events(), maker.picks()
            book = Night(program, events, picks).run()
            if not book:
                continue
            place = maker.chance.randrange(len(book))
            row = book[place]
            if row[1] == "outside":
                row = row[:4] + (row[4] + (99,),)
            else:
                row = row[:2] + (row[2][:-1] + (row[2][-1], 1),) + row[3:]
            with self.subTest(number=number):
                self.refused(program, book[:place] + [row] + book[place + 1:], place)


if __name__ == "__main__":
    unittest.main()
