"""Names and values [1.1], the parts of rows and the walk through them [1.2], [1.3]."""

import string
import unittest

from nightwatch.rows import is_name, is_value, parts, walk

KEY_WORDS = (
    "any ask begin but do end errand give group hear in keep last late let limit off raise repeat ring send "
    "take try wait when within"
).split()

NAMES = ["a", "z", "m", "bell", "abcdefgh", "zzzzzzzz", "aaaaaaaa", "ab"] + list(string.ascii_lowercase)
# Key words with a letter more or less, or turned round, are names like any other.
NEAR_KEY_WORDS = ["an", "anya", "en", "ends", "i", "inn", "withi", "withins", "dont", "yna", "lat", "later", "errands"]

NO_LETTERS = [
    "", "abcdefghi", "abcdefghij", "a" * 4000, "A", "Abc", "aBc", "abC", "ABC", "1", "a1", "1a", "a1b", "0",
    " ", " a", "a ", "a b", "\t", "\ta", "a\t", "a\tb", "\n", "\na", "a\n", "a\nb", "abcdefgh\n", "abcdefgh ",
    "`", "{", "a`", "a{", "_", "a_b", "a-b", "a.b", "a,b", "-", "~", "/", "a:", "a:b",
]

OTHER_KINDS = [
    True, False, None, [], ["a"], ["a", "b"], [[]], [0], (), ("a",), ("a", "b"), (5,), (":", "a"), {}, {"a": 1},
    {"name": "a"}, {0: 0}, {"a"}, set(), b"a", b"", 1.5, -0.5, object(), len, str, int,
]


class NameTests(unittest.TestCase):
    def check(self, things, told):
        for thing in things:
            with self.subTest(thing=thing):
                self.assertIs(is_name(thing), told)

    def test_one_to_eight_small_letters(self):
        self.check(NAMES, True)
        self.check(["abcdefgh"[:many] for many in range(1, 9)], True)

    def test_nine_letters_none_and_other_signs(self):
        self.check(NO_LETTERS, False)

    def test_every_sign_but_small_letters(self):
        signs = [chr(code) for code in range(32, 127) if chr(code) != "%"] + ["\t", "\n"]
        for sign in signs:
            told = sign in string.ascii_lowercase
            self.check([sign, sign + "xy", "x" + sign + "y", "xy" + sign], told)

    def test_key_words(self):
        self.assertEqual(len(KEY_WORDS), 26)
        self.check(KEY_WORDS, False)
        self.check(NEAR_KEY_WORDS, True)

    def test_key_words_with_blanks_or_capitals(self):
        for word in KEY_WORDS:
            self.check([" " + word, word + " ", word.upper(), word.capitalize(), word + "\n"], False)

    def test_told_words_are_no_names(self):
        self.check([":a", ":late", ":abcdefgh", ":", "::a"], False)

    def test_numbers_are_no_names(self):
        self.check([0, 1, 5, 999999, 1000000, -1], False)

    def test_other_kinds(self):
        self.check(OTHER_KINDS, False)


class ValueTests(unittest.TestCase):
    def check(self, things, told):
        for thing in things:
            with self.subTest(thing=thing):
                self.assertIs(is_value(thing), told)

    def test_numbers(self):
        self.check([0, 1, 2, 9, 10, 99, 100, 99999, 100000, 999998, 999999], True)
        self.check([1000000, 1000001, 10 ** 30, -1, -2, -999999, -(10 ** 30)], False)

    def test_names(self):
        self.check(NAMES, True)
        self.check(NEAR_KEY_WORDS, True)

    def test_texts_that_are_neither(self):
        self.check(NO_LETTERS, False)
        self.check(KEY_WORDS, False)

    def test_figures_are_texts_and_no_numbers(self):
        self.check(["0", "5", "12", "999999", "-1", ":0", ":5"], False)

    def test_told_words(self):
        self.check([":" + name for name in NAMES], True)
        self.check([":" + word for word in KEY_WORDS], True)
        self.check([":abcdefgh"[:many] for many in range(2, 10)], True)

    def test_told_words_of_no_letters_nine_letters_and_other_signs(self):
        self.check([":" + text for text in NO_LETTERS], False)

    def test_colons_elsewhere_and_more_of_them(self):
        self.check([":", "::", "::a", ":a:", "a:", ":a:b", "a:b", ":::", ";a", ".a"], False)

    def test_blanks_tabs_and_line_ends_round_a_told_word(self):
        for sign in (" ", "\t", "\n"):
            self.check([sign + ":a", ":a" + sign, ":" + sign + "a", ":a" + sign + "b"], False)

    def test_true_and_false_are_no_whole_numbers(self):
        self.check([True, False], False)

    def test_other_kinds(self):
        self.check(OTHER_KINDS, False)


class UnchangedTests(unittest.TestCase):
    def test_what_is_handed_in_is_not_changed(self):
        letters = ["a", "b", ["c"]]
        fields = {"a": [1], "b": True}
        for ask in (is_name, is_value):
            ask(letters)
            ask(fields)
        self.assertEqual(letters, ["a", "b", ["c"]])
        self.assertEqual(fields, {"a": [1], "b": True})


RING = ("ring", 2, "gate")
WAIT = ("wait", 3, 1)
GIVE = ("give", 4, 7)
LET = ("let", 5, "x", ":late")

PLAIN_ROWS = (
    ("wait", 1, 1), ("wait", 1, 99), ("hear", 2, "bell"), ("ring", 3, "bell"), ("send", 4, "box", 5),
    ("send", 4, "box", "x"), ("send", 4, "box", ":x"), ("take", 5, "box", "x"), ("let", 6, "x", 0),
    ("raise", 7, "torn"), ("begin", 8, "one", "run", "all", 0), ("begin", 8, "one", "run", "all", 99),
    ("ask", 9, "one", "x"), ("off", 10, "one"), ("give", 11, 999999), ("give", 11, "x"),
)

BLOCKS = (
    (("group", 1, "all", (RING, WAIT)), ((RING, WAIT),)),
    (("limit", 1, 5, (RING, WAIT), (GIVE,)), ((RING, WAIT), (GIVE,))),
    (("keep", 1, (RING, WAIT)), ((RING, WAIT),)),
    (("try", 1, (RING, WAIT), "torn", (GIVE,)), ((RING, WAIT), (GIVE,))),
    (("try", 1, (RING,), "any", (GIVE, LET)), ((RING,), (GIVE, LET))),
    (("do", 1, (RING, WAIT), (LET,)), ((RING, WAIT), (LET,))),
    (("when", 1, "x", 0, (RING, WAIT)), ((RING, WAIT),)),
    (("when", 1, "x", ":late", (RING,)), ((RING,),)),
    (("repeat", 1, 9, (RING, WAIT)), ((RING, WAIT),)),
)

EMPTY_BLOCKS = (
    (("group", 1, "all", ()), ((),)),
    (("limit", 1, 5, (), ()), ((), ())),
    (("limit", 1, 5, (RING,), ()), ((RING,), ())),
    (("limit", 1, 5, (), (RING,)), ((), (RING,))),
    (("keep", 1, ()), ((),)),
    (("try", 1, (), "any", ()), ((), ())),
    (("try", 1, (), "torn", (RING,)), ((), (RING,))),
    (("try", 1, (RING,), "torn", ()), ((RING,), ())),
    (("do", 1, (), ()), ((), ())),
    (("do", 1, (), (RING,)), ((), (RING,))),
    (("do", 1, (RING,), ()), ((RING,), ())),
    (("when", 1, "x", 0, ()), ((),)),
    (("repeat", 1, 1, ()), ((),)),
)


class PartsTests(unittest.TestCase):
    def check(self, row, told):
        with self.subTest(row=row):
            answer = parts(row)
            self.assertEqual(answer, told)
            self.assertIs(type(answer), tuple)
            self.assertEqual([type(part) for part in answer], [tuple] * len(told))

    def test_rows_that_are_no_blocks_have_none(self):
        for row in PLAIN_ROWS:
            self.check(row, ())

    def test_blocks(self):
        for row, told in BLOCKS:
            self.check(row, told)

    def test_blocks_with_empty_parts(self):
        for row, told in EMPTY_BLOCKS:
            self.check(row, told)

    def test_only_what_stands_right_in_the_row(self):
        inner = ("group", 2, "all", (WAIT,))
        self.check(("keep", 1, (inner, RING)), ((inner, RING),))


def nested(inner, depth):
    """A row at the bottom of blocks, and all of these as they are to be listed, the outermost first."""
    row = inner
    listed = [inner]
    for line in range(depth, 0, -1):
        ahead = ("ring", line, "ahead")
        behind = ("ring", line, "behind")
        other = ("ring", line, "other")
        block, around = block_round((ahead, row, behind), (other,), line)
        row = block
        listed = [block] + [ahead] + listed + [behind] + around
    return row, listed


def block_round(rows, others, line):
    kinds = (
        (("group", line, "all", rows), []),
        (("limit", line, 5, rows, others), list(others)),
        (("keep", line, rows), []),
        (("try", line, rows, "any", others), list(others)),
        (("do", line, rows, others), list(others)),
        (("when", line, "x", 1, rows), []),
        (("repeat", line, 2, rows), []),
    )
    return kinds[line % len(kinds)]


class WalkTests(unittest.TestCase):
    def check(self, rows, told):
        answer = walk(rows)
        self.assertEqual(answer, told)
        self.assertIs(type(answer), list)

    def test_no_rows(self):
        self.check((), [])

    def test_rows_that_are_no_blocks(self):
        self.check(PLAIN_ROWS, list(PLAIN_ROWS))
        self.check((GIVE, WAIT, RING), [GIVE, WAIT, RING])

    def test_like_rows_are_each_listed(self):
        self.check((RING, RING, WAIT, RING), [RING, RING, WAIT, RING])
        keep = ("keep", 1, (RING, RING))
        self.check((keep, keep), [keep, RING, RING, keep, RING, RING])

    def test_each_block_ahead_of_its_parts_these_in_their_order(self):
        for row, told in BLOCKS + EMPTY_BLOCKS:
            with self.subTest(row=row):
                inside = [inner for part in told for inner in part]
                self.check((row,), [row] + inside)
                self.check((LET, row, GIVE), [LET, row] + inside + [GIVE])

    def test_a_block_s_rows_stand_ahead_of_the_row_behind_the_block(self):
        inner = ("do", 2, (RING,), (WAIT,))
        outer = ("try", 1, (inner, GIVE), "torn", (inner, LET))
        self.check((outer, LET), [outer, inner, RING, WAIT, GIVE, inner, RING, WAIT, LET, LET])

    def test_blocks_in_the_second_parts(self):
        low = ("when", 4, "x", 0, (WAIT,))
        last = ("do", 3, (RING,), (low, LET))
        late = ("limit", 2, 9, (GIVE,), (last, RING))
        mended = ("try", 1, (), "any", (late, GIVE))
        self.check((mended,), [mended, late, GIVE, last, RING, low, WAIT, LET, RING, GIVE])

    def test_blocks_up_to_twenty_deep(self):
        for depth in range(1, 21):
            with self.subTest(depth=depth):
                row, listed = nested(("wait", 50, 7), depth)
                self.check((row, GIVE), listed + [GIVE])

    def test_each_block_twenty_deep_in_itself(self):
        for kind in range(7):
            row = WAIT
            listed = [WAIT]
            for line in range(20):
                row = block_round((row,), (), 7 * line + kind)[0]
                listed = [row] + listed
            with self.subTest(kind=row[0]):
                self.check((row,), listed)

    def test_what_was_told_is_the_asker_s_own(self):
        rows = (BLOCKS[1][0], LET)
        told = [BLOCKS[1][0], RING, WAIT, GIVE, LET]
        first = walk(rows)
        first.append(GIVE)
        first[0] = None
        second = walk(rows)
        self.assertEqual(second, told)
        second.clear()
        self.assertEqual(walk(rows), told)
        empty = walk(())
        empty.append(GIVE)
        self.assertEqual(walk(()), [])

    def test_what_was_told_is_not_changed_by_another_asking(self):
        first = walk((RING, WAIT))
        walk((GIVE,))
        parts(BLOCKS[0][0])
        self.assertEqual(first, [RING, WAIT])


if __name__ == "__main__":
    unittest.main()
