"""The clock and its dues [3.1] to [3.3]."""

import random
import unittest

from nightwatch.clocks import Clock
from nightwatch.errors import BadClock, WatchError


class ClockCase(unittest.TestCase):
    def stands(self, clock, tick, dues):
        """All that a clock tells, by where it stands and the list of its dues."""
        first = dues[0] if dues else None
        self.assertEqual(clock.now(), tick)
        self.assertIs(type(clock.now()), int)
        self.assertEqual(clock.dues(), dues)
        self.assertIs(type(clock.dues()), list)
        self.assertEqual(clock.next_time(), first[0] if first else None)
        self.assertEqual(clock.due(), first if first and first[0] == tick else None)
        if clock.due() is not None:
            self.assertIs(type(clock.due()), tuple)

    def refuses(self, clock, told):
        before = clock.now(), clock.dues()
        with self.assertRaises(BadClock) as caught:
            told()
        self.assertIsInstance(caught.exception, WatchError)
        self.stands(clock, before[0], before[1])


class AtTests(ClockCase):
    def test_a_new_clock(self):
        self.stands(Clock(), 0, [])

    def test_it_tells_none(self):
        clock = Clock()
        self.assertIsNone(clock.at(0, 1, "wait"))
        self.assertIsNone(clock.at(5, 1, "other"))

    def test_now_and_later(self):
        clock = Clock()
        clock.at(3, 1, "wait")
        self.stands(clock, 0, [(3, 1, "wait")])
        clock.at(0, 2, "wait")
        self.stands(clock, 0, [(0, 2, "wait"), (3, 1, "wait")])
        clock.at(99999, 3, "wait")
        clock.at(1, 99, "late12")
        self.stands(clock, 0, [(0, 2, "wait"), (1, 99, "late12"), (3, 1, "wait"), (99999, 3, "wait")])

    def test_gone_by(self):
        clock = Clock()
        clock.go_to(7)
        self.refuses(clock, lambda: clock.at(6, 1, "wait"))
        self.refuses(clock, lambda: clock.at(0, 1, "wait"))
        clock.at(7, 1, "wait")
        self.stands(clock, 7, [(7, 1, "wait")])

    def test_those_of_one_time_as_they_were_told(self):
        clock = Clock()
        for who, what in ((5, "b"), (3, "z"), (9, "a"), (3, "a"), (0, "m")):
            clock.at(4, who, what)
        self.stands(clock, 0, [(4, 5, "b"), (4, 3, "z"), (4, 9, "a"), (4, 3, "a"), (4, 0, "m")])
        clock.at(2, 1, "x")
        clock.at(4, 1, "y")
        clock.at(3, 8, "x")
        told = [(2, 1, "x"), (3, 8, "x"), (4, 5, "b"), (4, 3, "z"), (4, 9, "a"), (4, 3, "a"), (4, 0, "m"), (4, 1, "y")]
        self.stands(clock, 0, told)

    def test_told_anew_with_the_same_who_and_what(self):
        clock = Clock()
        clock.at(4, 1, "wait")
        clock.at(4, 2, "wait")
        clock.at(4, 1, "wait")
        self.stands(clock, 0, [(4, 2, "wait"), (4, 1, "wait")])
        clock.at(3, 2, "wait")
        self.stands(clock, 0, [(3, 2, "wait"), (4, 1, "wait")])
        clock.at(9, 2, "wait")
        self.stands(clock, 0, [(4, 1, "wait"), (9, 2, "wait")])

    def test_the_same_who_or_the_same_what_alone(self):
        clock = Clock()
        clock.at(4, 1, "wait")
        clock.at(5, 1, "late1")
        clock.at(6, 2, "wait")
        clock.at(7, 11, "wait")
        self.stands(clock, 0, [(4, 1, "wait"), (5, 1, "late1"), (6, 2, "wait"), (7, 11, "wait")])

    def test_one_that_stands_stays_where_the_new_time_is_refused(self):
        clock = Clock()
        clock.go_to(5)
        clock.at(8, 1, "wait")
        self.refuses(clock, lambda: clock.at(4, 1, "wait"))
        self.stands(clock, 5, [(8, 1, "wait")])


class TakeTests(ClockCase):
    def test_the_first_of_all_that_are_now(self):
        clock = Clock()
        clock.at(0, 2, "b")
        clock.at(0, 1, "a")
        clock.at(1, 0, "c")
        self.assertEqual(clock.take(), (0, 2, "b"))
        self.stands(clock, 0, [(0, 1, "a"), (1, 0, "c")])
        self.assertEqual(clock.take(), (0, 1, "a"))
        self.stands(clock, 0, [(1, 0, "c")])
        self.refuses(clock, clock.take)
        clock.go_to(1)
        self.assertEqual(clock.take(), (1, 0, "c"))
        self.stands(clock, 1, [])

    def test_without_any(self):
        clock = Clock()
        self.refuses(clock, clock.take)
        clock.go_to(4)
        self.refuses(clock, clock.take)

    def test_due_takes_nothing(self):
        clock = Clock()
        clock.at(0, 1, "a")
        self.assertEqual([clock.due(), clock.due(), clock.due()], [(0, 1, "a")] * 3)
        self.stands(clock, 0, [(0, 1, "a")])

    def test_one_more_at_now_behind_a_taking(self):
        clock = Clock()
        clock.at(2, 1, "a")
        clock.go_to(2)
        self.assertEqual(clock.take(), (2, 1, "a"))
        clock.at(2, 1, "a")
        self.assertEqual(clock.take(), (2, 1, "a"))
        self.stands(clock, 2, [])


class DropTests(ClockCase):
    def made(self):
        clock = Clock()
        for time, who, what in ((3, 1, "a"), (5, 2, "a"), (5, 1, "b"), (7, 1, "c"), (8, 0, "a")):
            clock.at(time, who, what)
        return clock

    def test_with_a_what(self):
        clock = self.made()
        self.assertEqual(clock.drop(1, "b"), 1)
        self.stands(clock, 0, [(3, 1, "a"), (5, 2, "a"), (7, 1, "c"), (8, 0, "a")])
        self.assertEqual(clock.drop(1, "b"), 0)
        self.assertEqual(clock.drop(2, "c"), 0)
        self.assertEqual(clock.drop(7, "a"), 0)
        self.stands(clock, 0, [(3, 1, "a"), (5, 2, "a"), (7, 1, "c"), (8, 0, "a")])
        self.assertEqual(clock.drop(0, "a"), 1)
        self.stands(clock, 0, [(3, 1, "a"), (5, 2, "a"), (7, 1, "c")])

    def test_without_a_what(self):
        clock = self.made()
        self.assertEqual(clock.drop(1), 3)
        self.stands(clock, 0, [(5, 2, "a"), (8, 0, "a")])
        self.assertEqual(clock.drop(1), 0)
        self.assertEqual(clock.drop(0, None), 1)
        self.stands(clock, 0, [(5, 2, "a")])
        self.assertEqual(clock.drop(2), 1)
        self.stands(clock, 0, [])
        self.assertEqual(clock.drop(2), 0)

    def test_of_none(self):
        clock = Clock()
        self.assertEqual((clock.drop(1), clock.drop(1, "a")), (0, 0))
        self.stands(clock, 0, [])

    def test_dropped_and_told_again(self):
        clock = self.made()
        clock.drop(1, "a")
        clock.at(5, 1, "a")
        self.stands(clock, 0, [(5, 2, "a"), (5, 1, "b"), (5, 1, "a"), (7, 1, "c"), (8, 0, "a")])


class GoTests(ClockCase):
    def test_now_and_ahead(self):
        clock = Clock()
        self.assertIsNone(clock.go_to(0))
        self.stands(clock, 0, [])
        self.assertIsNone(clock.go_to(1))
        clock.go_to(1)
        self.stands(clock, 1, [])
        clock.go_to(99999)
        self.stands(clock, 99999, [])

    def test_back(self):
        clock = Clock()
        clock.go_to(5)
        self.refuses(clock, lambda: clock.go_to(4))
        self.refuses(clock, lambda: clock.go_to(0))

    def test_to_a_due_and_beyond_it(self):
        clock = Clock()
        clock.at(6, 1, "a")
        clock.at(9, 2, "a")
        clock.go_to(5)
        self.refuses(clock, lambda: clock.go_to(7))
        self.refuses(clock, lambda: clock.go_to(99999))
        clock.go_to(6)
        self.stands(clock, 6, [(6, 1, "a"), (9, 2, "a")])
        self.refuses(clock, lambda: clock.go_to(7))
        clock.go_to(6)
        clock.take()
        self.refuses(clock, lambda: clock.go_to(10))
        clock.go_to(9)
        self.stands(clock, 9, [(9, 2, "a")])
        clock.drop(2)
        clock.go_to(10)
        self.stands(clock, 10, [])

    def test_what_is_due_at_nought(self):
        clock = Clock()
        clock.at(0, 0, "a")
        self.refuses(clock, lambda: clock.go_to(1))
        clock.take()
        clock.go_to(1)


class OwnTests(ClockCase):
    def test_a_list_that_was_told_and_changed(self):
        clock = Clock()
        clock.at(3, 1, "a")
        told = clock.dues()
        told.append((4, 2, "b"))
        told[0] = (0, 0, "z")
        self.stands(clock, 0, [(3, 1, "a")])
        clock.dues().clear()
        self.stands(clock, 0, [(3, 1, "a")])

    def test_a_list_that_was_told_stays(self):
        clock = Clock()
        clock.at(3, 1, "a")
        told = clock.dues()
        clock.at(2, 2, "b")
        clock.drop(1)
        self.assertEqual(told, [(3, 1, "a")])

    def test_two_clocks_side_by_side(self):
        one, two = Clock(), Clock()
        one.at(3, 1, "a")
        one.go_to(2)
        self.stands(two, 0, [])
        two.at(3, 1, "a")
        two.drop(1)
        self.stands(one, 2, [(3, 1, "a")])


# A row of dues with the number of their telling; all else is found anew each time.
class Told:
    def __init__(self):
        self.tick, self.number, self.rows = 0, 0, []

    def dues(self):
        return [(time, who, what) for time, number, who, what in sorted(self.rows)]

    def put(self, time, who, what):
        self.rows = [row for row in self.rows if row[2:] != (who, what)] + [(time, self.number, who, what)]
        self.number += 1

    def drop(self, who, what):
        before = len(self.rows)
        self.rows = [row for row in self.rows if row[2] != who or (what is not None and row[3] != what)]
        return before - len(self.rows)


class MadeTests(ClockCase):
    def one_deed(self, chance, clock, told):
        deed = chance.choice(("at", "at", "at", "take", "drop", "go_to", "go_to"))
        who, what = chance.randint(0, 3), chance.choice(("a", "b", "wait"))
        time = told.tick + chance.randint(-1, 4)
        first = told.dues()[0] if told.rows else None
        if deed == "at":
            if time < told.tick:
                self.refuses(clock, lambda: clock.at(time, who, what))
            else:
                self.assertIsNone(clock.at(time, who, what))
                told.put(time, who, what)
        elif deed == "take":
            if first is None or first[0] != told.tick:
                self.refuses(clock, clock.take)
            else:
                self.assertEqual(clock.take(), first)
                told.drop(first[1], first[2])
        elif deed == "drop":
            what = chance.choice((None, what))
            self.assertEqual(clock.drop(who, what), told.drop(who, what))
        elif time < told.tick or (first is not None and first[0] < time):
            self.refuses(clock, lambda: clock.go_to(time))
        else:
            clock.go_to(time)
            told.tick = time

    def test_made_rows_of_deeds(self):
        chance = random.Random(33)
        for number in range(60):
            clock, told = Clock(), Told()
            for deed in range(60):
                self.one_deed(chance, clock, told)
                self.stands(clock, told.tick, told.dues())


if __name__ == "__main__":
    unittest.main()
