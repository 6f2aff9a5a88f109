"""The frames of an errand, one kind after the other [5.3], [5.4], [5.6], [5.9]."""

import unittest

from nightwatch.frames import Cleaned, Frame, Grouped, Kept, Limited, Rounds, Tried

ROWS = (("ring", 4, "a"), ("wait", 5, 1), ("keep", 6, (("ring", 7, "b"),)))
OTHERS = (("ring", 9, "c"), ("ring", 10, "d"))

# One of each kind, made anew each time: its word, how it is made, its scope.
KINDS = (
    ("frame", lambda: Frame(ROWS, 3), None),
    ("own", lambda: Frame(ROWS, 3, 0), 0),
    ("rounds", lambda: Rounds(ROWS, 3, 1), None),
    ("kept", lambda: Kept(ROWS, 3), None),
    ("tried", lambda: Tried(ROWS, 3, "lost", OTHERS), None),
    ("cleaned", lambda: Cleaned(ROWS, 3, OTHERS), None),
    ("limited", lambda: Limited(ROWS, 3, 2, OTHERS), 2),
    ("grouped", lambda: Grouped(ROWS, 3, 5, "all"), 5),
)
SIGNALS = (("strike", 0), ("strike", 2), ("strike", 5), ("strike", 7), ("faults", ("lost",)), ("faults", ("torn",)),
           ("faults", ("lost", "torn")), ("faults", ("torn", "lost")))
WITH_OTHERS = ("tried", "cleaned", "limited")


class EachKindTests(unittest.TestCase):
    def each(self):
        for word, made, scope in KINDS:
            with self.subTest(word=word):
                yield word, made(), scope

    def test_fields(self):
        for word, frame, scope in self.each():
            self.assertEqual(frame.line, 3)
            self.assertEqual(frame.scope, scope)
            self.assertIsInstance(frame, Frame)

    def test_rows_to_the_end_and_beyond(self):
        for word, frame, scope in self.each():
            self.assertEqual([frame.next_row() for place in range(3)], list(ROWS))
            self.assertEqual([frame.next_row() for place in range(3)], [None] * 3)

    def test_no_rows(self):
        for frame in (Frame((), 1), Rounds((), 1, 3), Kept((), 1), Tried((), 1, "a", ()), Cleaned((), 1, ()),
                      Limited((), 1, 1, ()), Grouped((), 1, 1, "g")):
            self.assertIsNone(frame.next_row())
            self.assertEqual(frame.behind(), [])

    def test_what_hides(self):
        for word, frame, scope in self.each():
            for place in range(5):
                self.assertIs(frame.hides(), word == "kept")
                frame.next_row()

    def test_what_follows_when_rows_are_done(self):
        told = {"cleaned": "clean", "grouped": "join"}
        for word, frame, scope in self.each():
            for place in range(4):
                frame.next_row()
            for place in range(3):
                self.assertEqual(frame.over(), told.get(word, "out"))
            self.assertIsNone(frame.next_row())

    def test_signals(self):
        for word, frame, scope in self.each():
            for signal in SIGNALS:
                told = {"cleaned": "clean", "grouped": "halt"}.get(word, "out")
                if word == "tried" and signal[0] == "faults" and signal[1][0] == "lost":
                    told = "caught"
                if word == "limited" and signal == ("strike", 2):
                    told = "late"
                self.assertEqual(frame.meets(signal), told)
                self.assertEqual(frame.meets(signal), told)

    def test_a_signal_changes_nothing(self):
        for word, frame, scope in self.each():
            frame.next_row()
            before = frame.behind(), frame.hides(), frame.scope
            for signal in SIGNALS:
                frame.meets(signal)
            self.assertEqual((frame.behind(), frame.hides(), frame.scope), before)
            self.assertEqual(frame.next_row(), ROWS[1])

    def test_rows_behind_at_each_place(self):
        for word, frame, scope in self.each():
            others = list(OTHERS) if word in WITH_OTHERS else []
            for place in range(4):
                self.assertEqual(frame.behind(), list(ROWS[place:]) + others)
                self.assertIs(type(frame.behind()), list)
                frame.next_row()
            self.assertEqual(frame.behind(), others)

    def test_a_list_that_was_told_and_changed(self):
        for word, frame, scope in self.each():
            told = frame.behind()
            told.clear()
            frame.next_row()
            self.assertEqual(frame.behind()[:2], list(ROWS[1:]))
            first = frame.behind()
            frame.next_row()
            self.assertEqual(first[:2], list(ROWS[1:]))

    def test_two_of_a_kind_side_by_side(self):
        for word, made, scope in KINDS:
            one, two = made(), made()
            one.next_row()
            one.next_row()
            with self.subTest(word=word):
                self.assertEqual(two.next_row(), ROWS[0])
                self.assertEqual(one.next_row(), ROWS[2])


class RoundsTests(unittest.TestCase):
    def one_round(self, frame):
        return [frame.next_row() for place in range(4)]

    def test_as_often_as_told(self):
        for many in (1, 2, 3, 9):
            frame = Rounds(ROWS, 3, many)
            with self.subTest(many=many):
                for place in range(many - 1):
                    self.assertEqual(self.one_round(frame), list(ROWS) + [None])
                    self.assertEqual(frame.over(), "on")
                self.assertEqual(self.one_round(frame), list(ROWS) + [None])
                self.assertEqual([frame.over(), frame.over()], ["out", "out"])
                self.assertIsNone(frame.next_row())

    def test_without_rows(self):
        for many in (1, 2, 9):
            frame = Rounds((), 3, many)
            with self.subTest(many=many):
                told = []
                for place in range(many):
                    self.assertIsNone(frame.next_row())
                    told.append(frame.over())
                self.assertEqual(told, ["on"] * (many - 1) + ["out"])

    def test_rows_behind(self):
        frame = Rounds(ROWS, 3, 2)
        for place in range(4):
            self.assertEqual(frame.behind(), list(ROWS))
            frame.next_row()
        frame.over()
        for place in range(4):
            self.assertEqual(frame.behind(), list(ROWS[place:]))
            frame.next_row()
        self.assertEqual(frame.behind(), [])

    def test_rows_that_are_alike(self):
        row = ("ring", 1, "a")
        frame = Rounds((row, row), 1, 2)
        self.assertEqual(frame.behind(), [row, row])

    def test_signals_in_any_round(self):
        frame = Rounds(ROWS, 3, 3)
        self.one_round(frame)
        frame.over()
        for signal in SIGNALS:
            self.assertEqual(frame.meets(signal), "out")


class TriedTests(unittest.TestCase):
    def test_any(self):
        frame = Tried(ROWS, 3, "any", OTHERS)
        for signal in SIGNALS:
            self.assertEqual(frame.meets(signal), "caught" if signal[0] == "faults" else "out")

    def test_another_name(self):
        frame = Tried(ROWS, 3, "torn", OTHERS)
        told = [frame.meets(signal) for signal in SIGNALS[4:]]
        self.assertEqual(told, ["out", "caught", "out", "caught"])


class CleanedTests(unittest.TestCase):
    def test_its_clean_up(self):
        for signal in (None, ("strike", 0), ("faults", ("lost",))):
            frame = Cleaned(ROWS, 3, OTHERS)
            frame.next_row()
            self.assertIsNone(frame.clean(signal))
            with self.subTest(signal=signal):
                self.assertIs(frame.hides(), True)
                self.assertEqual(frame.behind(), list(OTHERS))
                self.assertEqual(frame.next_row(), OTHERS[0])
                self.assertEqual(frame.behind(), list(OTHERS[1:]))
                self.assertEqual([frame.next_row(), frame.next_row()], [OTHERS[1], None])
                self.assertEqual(frame.behind(), [])
                self.assertEqual([frame.over(), frame.over()], ["out", "out"])
                self.assertIs(frame.hides(), True)
                self.assertEqual((frame.line, frame.scope), (3, None))
                self.assertEqual([frame.meets(other) for other in SIGNALS], ["out"] * len(SIGNALS))

    def test_one_without_rows(self):
        frame = Cleaned((), 3, ())
        self.assertEqual(frame.over(), "clean")
        frame.clean(None)
        self.assertIsNone(frame.next_row())
        self.assertEqual(frame.over(), "out")


class LimitedTests(unittest.TestCase):
    def test_its_own_scope_alone(self):
        for own in (1, 2, 12):
            frame = Limited(ROWS, 3, own, ())
            for scope in (0, 1, 2, 12, 13):
                self.assertEqual(frame.meets(("strike", scope)), "late" if scope == own else "out")


if __name__ == "__main__":
    unittest.main()
