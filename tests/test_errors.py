"""The refusals of stage 1's interface: their classes and their fields."""

import unittest

from nightwatch.errors import BadBook, BadClock, BadDesk, BadProgram, BadRow, NotWaiting, Over, WatchError

MADE = (
    (BadClock, ("the clock stands behind that",)),
    (NotWaiting, ("nobody hears this bell",)),
    (Over, ("this group is not open",)),
    (BadDesk, ("no such desk",)),
    (BadRow, (3,)),
    (BadProgram, (4, "deep")),
    (BadBook, (0,)),
)


class TakenTests(unittest.TestCase):
    def check_taken(self, kind, words, taken_as):
        try:
            raise kind(*words)
        except taken_as as error:
            self.assertIs(type(error), kind)

    def test_each_is_taken_as_itself_as_watch_error_and_as_value_error(self):
        for kind, words in MADE:
            for taken_as in (kind, WatchError, ValueError):
                with self.subTest(kind=kind, taken_as=taken_as):
                    self.check_taken(kind, words, taken_as)

    def test_none_is_taken_as_another_one(self):
        for kind, words in MADE:
            for other, other_words in MADE:
                if other != kind:
                    with self.subTest(kind=kind, other=other):
                        self.assertNotIsInstance(kind(*words), other)

    def test_watch_error_is_a_value_error_and_none_of_those_under_it(self):
        self.check_taken(WatchError, ("refused",), WatchError)
        self.check_taken(WatchError, ("refused",), ValueError)
        for kind, words in MADE:
            with self.subTest(kind=kind):
                self.assertNotIsInstance(WatchError("refused"), kind)

    def test_they_are_none_of_the_other_errors_of_python(self):
        for kind, words in MADE + ((WatchError, ("refused",)),):
            for other in (LookupError, TypeError, ArithmeticError, RuntimeError, AttributeError, UnicodeError):
                with self.subTest(kind=kind, other=other):
                    self.assertNotIsInstance(kind(*words), other)


class FieldTests(unittest.TestCase):
    def test_the_line_of_a_bad_row(self):
        for line in (1, 2, 0, -1, 99999, 10 ** 12):
            with self.subTest(line=line):
                self.assertEqual(BadRow(line).line, line)

    def test_the_line_and_the_word_of_a_bad_program(self):
        for line in (1, 0, 201, 10 ** 12):
            for word in ("many", "long", "", "some word"):
                with self.subTest(line=line, word=word):
                    error = BadProgram(line, word)
                    self.assertEqual((error.line, error.word), (line, word))

    def test_the_place_of_a_bad_book(self):
        for place in (0, 1, 7, -1, 10 ** 12):
            with self.subTest(place=place):
                self.assertEqual(BadBook(place).place, place)

    def test_fields_are_each_error_s_own(self):
        first = BadProgram(1, "many")
        row = BadRow(5)
        book = BadBook(6)
        BadProgram(2, "long")
        BadRow(7)
        BadBook(8)
        self.assertEqual((first.line, first.word, row.line, book.place), (1, "many", 5, 6))

    def test_fields_are_there_when_the_error_was_raised(self):
        with self.assertRaises(BadRow) as row:
            raise BadRow(12)
        with self.assertRaises(WatchError) as program:
            raise BadProgram(13, "weight")
        with self.assertRaises(ValueError) as book:
            raise BadBook(14)
        self.assertEqual(row.exception.line, 12)
        self.assertEqual((program.exception.line, program.exception.word), (13, "weight"))
        self.assertEqual(book.exception.place, 14)


if __name__ == "__main__":
    unittest.main()
