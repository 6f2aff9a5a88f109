"""Texts that are refused with BadRow, and the line that is told [1.5]."""

import unittest

from nightwatch.errors import BadRow, WatchError
from nightwatch.reader import read

KEY_WORDS = (
    "any ask begin but do end errand give group hear in keep last late let limit off raise repeat ring send "
    "take try wait when within"
).split()

# Forms of lines that may stand right in an errand; NAME, VALUE and N are filled in.
ROW_FORMS = (
    "wait N", "hear NAME", "ring NAME", "send NAME VALUE", "take NAME NAME", "let NAME VALUE", "raise NAME",
    "begin NAME NAME in NAME", "begin NAME NAME in NAME within N", "ask NAME NAME", "off NAME", "give VALUE",
)
BLOCK_FORMS = ("group NAME", "limit N", "keep", "try", "do", "when NAME VALUE", "repeat N")
TURN_FORMS = ("late", "but NAME", "but any", "last")
OTHER_FORMS = ("errand NAME", "end")
FILLED = {"NAME": "abc", "VALUE": "7", "N": "5"}

OPENERS = {"group": "group g", "limit": "limit 5", "keep": "keep", "try": "try", "do": "do", "when": "when x 0",
           "repeat": "repeat 2"}
TURNS = {"limit": "late", "try": "but any", "do": "last"}
# What a block of each kind needs ahead of its end.
NEEDED = {"try": ["but any"], "do": ["last"]}


def filled(form):
    return " ".join([FILLED.get(word, word) for word in form.split(" ")])


def with_word(form, place, word):
    """The form filled in, but for one of its words."""
    words = filled(form).split(" ")
    words[place] = word
    return " ".join(words)


class RefusedCase(unittest.TestCase):
    def refused(self, text, line):
        with self.subTest(text=text):
            with self.assertRaises(BadRow) as caught:
                read(text)
            self.assertEqual(caught.exception.line, line)
            self.assertIs(type(caught.exception.line), int)

    def taken(self, text):
        with self.subTest(text=text):
            program = read(text)
            self.assertIs(type(program), tuple)

    def wrong_row(self, line):
        """A line that is wrong wherever it stands: at the first, a middle and the last line."""
        self.refused(line, 1)
        self.refused(line + "\n", 1)
        self.refused(line + "\nerrand a\nend", 1)
        self.refused("errand a\n" + line + "\nend", 2)
        self.refused("errand a\nwait 1\n\nkeep\n" + line + "\nwait 2\nend\nend\nerrand b\nend\n", 5)
        self.refused("errand a\n" + line, 2)
        self.refused("errand a\n" + line + "\n\n", 2)
        self.refused("errand a\nwait 1\nend\n" + line, 4)
        self.refused("errand a\nend\n" + line + "\n", 3)


class FormTests(RefusedCase):
    def test_the_forms_as_they_are_filled_in_are_right(self):
        for form in ROW_FORMS:
            self.taken("errand a\n" + filled(form) + "\nend")
        for form in BLOCK_FORMS:
            kind = form.split(" ")[0]
            self.taken("\n".join(["errand a", filled(form)] + NEEDED.get(kind, []) + ["end", "end"]))
        for form in ("but NAME", "but any"):
            self.taken("errand a\ntry\n" + filled(form) + "\nend\nend")
        self.taken("errand abc\nend")

    def test_words_that_begin_no_line(self):
        for word in ("any", "in", "within", "x", "abc", "5", "0", ":late", "none", "ende", "waits", "wai", "#", "|", "-"):
            self.wrong_row(word)
            self.wrong_row(word + " a")
            self.wrong_row(word + " 5")

    def test_a_word_is_missing(self):
        for form in ROW_FORMS + BLOCK_FORMS + TURN_FORMS + OTHER_FORMS:
            words = filled(form).split(" ")
            for place in range(1, len(words)):
                self.wrong_row(" ".join(words[:place] + words[place + 1:]))
            if len(words) > 1:
                self.wrong_row(words[0])
                self.wrong_row(" ".join(words[1:]))

    def test_a_word_too_many(self):
        for form in ROW_FORMS + BLOCK_FORMS + TURN_FORMS + OTHER_FORMS:
            line = filled(form)
            for word in ("x", "5", ":x", "end", "in", "within", "any"):
                self.wrong_row(line + " " + word)
            self.wrong_row(line + " " + line)

    def test_capitals(self):
        for form in ROW_FORMS + BLOCK_FORMS + TURN_FORMS + OTHER_FORMS:
            line = filled(form)
            self.wrong_row(line.upper())
            self.wrong_row(line.capitalize())
        self.wrong_row("begin a b IN g")
        self.wrong_row("begin a b in g WITHIN 5")
        self.wrong_row("but ANY")
        self.wrong_row("but Any")

    def test_the_words_of_a_form_are_no_words_of_a_line(self):
        for form in ROW_FORMS + BLOCK_FORMS + TURN_FORMS + OTHER_FORMS:
            if form != filled(form):
                self.wrong_row(form)

    def test_words_in_and_within_are_there_in_their_places(self):
        for line in (
            "begin a b g", "begin a b on g", "begin a in b g", "begin a b in g in", "begin a b in g 5",
            "begin a b in g within", "begin a b in g in 5", "begin a b within 5", "begin a b within 5 in g",
            "begin a b within g", "begin a b in g within 5 5", "begin a b in g within 5 within 5", "begin a b in 5",
            "begin within 5", "begin a b in g but 5", "begin a b in g within x", "begin a b in g within :x",
        ):
            self.wrong_row(line)

    def test_words_run_together(self):
        for line in ("wait5", "heargate", "keep,", "end.", "letx 5", "let x5", "send a:b", "buta", "butany", "giveabc"):
            self.wrong_row(line)

    def test_two_rows_on_one_line(self):
        for line in ("wait 1 wait 2", "keep end", "end end", "try but any", "errand a end", "do last end", "late end"):
            self.wrong_row(line)


class NameTests(RefusedCase):
    def name_places(self):
        for form in ROW_FORMS + BLOCK_FORMS + TURN_FORMS + OTHER_FORMS:
            for place, word in enumerate(form.split(" ")):
                if word == "NAME":
                    yield form, place

    def test_key_words_in_a_name_s_place(self):
        for form, place in self.name_places():
            for word in KEY_WORDS:
                if (form, word) != ("but NAME", "any"):
                    self.wrong_row(with_word(form, place, word))

    def test_no_names_in_a_name_s_place(self):
        for form, place in self.name_places():
            for word in ("abcdefghi", "A", "aB", "a1", "1", "0", "55", ":a", ":late", ":", "a:", "a_b", "a-b", "`", "{"):
                self.wrong_row(with_word(form, place, word))

    def test_a_word_of_4000_letters(self):
        for form, place in self.name_places():
            self.refused("errand a\n" + with_word(form, place, "a" * 4000) + "\nend", 2)

    def test_a_name_of_eight_letters_is_right(self):
        for form in ROW_FORMS:
            line = filled(form).replace("abc", "abcdefgh")
            self.taken("errand abcdefgh\n" + line + "\nend")


class NumberTests(RefusedCase):
    no_figures = ("x", ":x", ":5", "-1", "+1", "-0", "+5", "1.0", "5.", ".5", "1_0", "1e1", "0x5", "0b1", "1,0", "5x", "x5")
    noughts_ahead = ("00", "01", "05", "09", "007", "010", "099", "000005", "0000005")

    def number_forms(self):
        return (("wait N", 1, 99), ("limit N", 1, 99), ("repeat N", 1, 9), ("begin NAME NAME in NAME within N", 6, 99))

    def test_n_at_and_beyond_its_bounds(self):
        for form, place, greatest in self.number_forms():
            for n in (0, greatest + 1, greatest + 2, 100, 101, 110, 990, 999, 1000, 999999, 1000000, 10 ** 20):
                self.wrong_row(with_word(form, place, str(n)))
            for n in (1, greatest):
                ends = "end\n" if form in BLOCK_FORMS else ""
                self.taken("errand a\n" + with_word(form, place, str(n)) + "\n" + ends + "end")

    def test_n_of_a_repeat_has_one_figure(self):
        for n in range(10, 100):
            self.refused("errand a\nrepeat " + str(n) + "\nend\nend", 2)

    def test_n_with_noughts_ahead_or_no_figures(self):
        for form, place, greatest in self.number_forms():
            for word in self.noughts_ahead + self.no_figures:
                self.wrong_row(with_word(form, place, word))

    def test_numbers_of_very_many_figures(self):
        for form, place, greatest in self.number_forms() + (("give VALUE", 1, 0), ("let NAME VALUE", 2, 0)):
            for word in ("1" * 900, "9" * 4000, "0" * 4000, "0" * 3999 + "5"):
                self.refused("errand a\n" + with_word(form, place, word) + "\nend", 2)

    def value_places(self):
        for form in ROW_FORMS + BLOCK_FORMS:
            for place, word in enumerate(form.split(" ")):
                if word == "VALUE":
                    yield form, place

    def test_values_at_and_beyond_their_bounds(self):
        for form, place in self.value_places():
            for word in ("1000000", "1000001", "9999999", "10000000", "-1", "-0", "+1", "-999999"):
                self.wrong_row(with_word(form, place, word))
            for word in ("0", "1", "999999"):
                ends = "end\n" if form in BLOCK_FORMS else ""
                self.taken("errand a\n" + with_word(form, place, word) + "\n" + ends + "end")

    def test_values_with_noughts_ahead(self):
        for form, place in self.value_places():
            for word in self.noughts_ahead + ("000000", "0999999"):
                self.wrong_row(with_word(form, place, word))

    def test_values_that_are_neither_numbers_names_nor_told_words(self):
        for form, place in self.value_places():
            for word in ("1.0", "1_0", "5x", "x5", "A", ":A", ":a1", ":", "::a", ":a:", "a:", ":abcdefghi", "abcdefghi", ":5"):
                self.wrong_row(with_word(form, place, word))

    def test_key_words_in_a_value_s_place(self):
        for form, place in self.value_places():
            for word in KEY_WORDS:
                self.wrong_row(with_word(form, place, word))


class TabTests(RefusedCase):
    def test_tabs_are_no_blanks(self):
        for form in ROW_FORMS + BLOCK_FORMS + TURN_FORMS + OTHER_FORMS:
            line = filled(form)
            self.wrong_row("\t" + line)
            self.wrong_row(line + "\t")
            self.wrong_row("\t " + line)
            self.wrong_row(line + " \t")
            if " " in line:
                self.wrong_row(line.replace(" ", "\t"))
                self.wrong_row(line.replace(" ", " \t "))
                self.wrong_row(line.replace(" ", "\t", 1))

    def test_a_line_of_tabs_is_no_line_of_blanks(self):
        for line in ("\t", " \t", "\t ", "  \t  ", "\t\t"):
            self.wrong_row(line)


class OutsideTests(RefusedCase):
    def test_rows_outside_an_errand(self):
        for form in ROW_FORMS + BLOCK_FORMS + TURN_FORMS + ("end",):
            line = filled(form)
            self.refused(line, 1)
            self.refused(line + "\n", 1)
            self.refused("\n\n" + line + "\n\n", 3)
            self.refused(line + "\nerrand a\nend\n", 1)
            self.refused("errand a\nend\n" + line, 3)
            self.refused("errand a\nend\n" + line + "\n", 3)
            self.refused("errand a\nend\n\n" + line + "\nerrand b\nend\n", 4)

    def test_a_whole_block_outside_an_errand(self):
        self.refused("keep\nwait 1\nend\nerrand a\nend", 1)
        self.refused("errand a\nend\ndo\nlast\nend", 3)

    def test_an_end_too_many(self):
        self.refused("errand a\nend\nend", 3)
        self.refused("errand a\nkeep\nend\nend\n\nend\n", 6)
        self.refused("errand a\nend\nend\nerrand b\nend", 3)
        self.refused("end\nerrand a\nend", 1)

    def test_an_errand_within_one(self):
        self.refused("errand a\nerrand b\nend\nend", 2)
        self.refused("errand a\nwait 1\n\nerrand a\nend\nend\n", 4)
        self.refused("errand a\nerrand b", 2)
        self.refused("errand a\nend\nerrand b\nerrand c\nend\nend", 4)

    def test_an_errand_within_a_block(self):
        for kind, opener in OPENERS.items():
            self.refused("errand a\n" + opener + "\nerrand b\nend\nend\nend", 3)
            if kind in TURNS:
                self.refused("errand a\n" + opener + "\n" + TURNS[kind] + "\nerrand b\nend\nend\nend", 4)


class TurnTests(RefusedCase):
    def test_right_in_an_errand(self):
        for turn in ("late", "but a", "but any", "last"):
            self.refused("errand a\n" + turn + "\nend", 2)
            self.refused("errand a\nwait 1\n" + turn + "\nwait 1\nend", 3)
            self.refused("errand a\n" + turn, 2)
            self.refused("errand a\n" + turn + "\n", 2)

    def test_in_a_block_of_another_kind(self):
        for kind, opener in OPENERS.items():
            for own, turn in (("limit", "late"), ("try", "but a"), ("try", "but any"), ("do", "last")):
                if own != kind:
                    self.refused("errand a\n" + opener + "\nwait 1\n" + turn + "\nwait 1\nend\nend", 4)
                    self.refused("errand a\n" + opener + "\n" + turn, 3)

    def test_in_a_block_of_another_kind_behind_its_own_turn(self):
        for kind in TURNS:
            for own, turn in (("limit", "late"), ("try", "but a"), ("do", "last")):
                if own != kind:
                    self.refused("errand a\n" + OPENERS[kind] + "\n" + TURNS[kind] + "\nwait 1\n" + turn
                                 + "\nwait 1\nend\nend", 5)

    def test_in_a_block_within_its_own(self):
        for own in TURNS:
            for kind, opener in OPENERS.items():
                if kind != own:
                    self.refused("errand a\n" + OPENERS[own] + "\n" + opener + "\n" + TURNS[own] + "\nend\nend\nend", 4)

    def test_behind_the_end_of_its_own(self):
        self.refused("errand a\nlimit 5\nend\nlate\nwait 1\nend", 4)
        self.refused("errand a\ntry\nbut any\nend\nbut a\nend", 5)
        self.refused("errand a\ndo\nlast\nend\nlast\nend", 5)

    def test_once_more(self):
        self.refused("errand a\nlimit 5\nlate\nlate\nwait 1\nend\nend", 4)
        self.refused("errand a\nlimit 5\nwait 1\nlate\nwait 1\nlate\nwait 1\nend\nend", 6)
        self.refused("errand a\ntry\nbut a\nbut b\nend\nend", 4)
        self.refused("errand a\ntry\nbut a\nwait 1\nbut any\nend\nend", 5)
        self.refused("errand a\ntry\nbut any\n\nbut a\nend\nend", 5)
        self.refused("errand a\ndo\nlast\nlast\nend\nend", 4)
        self.refused("errand a\ndo\nwait 1\nlast\nwait 1\nlast\nend\nend", 6)

    def test_once_more_behind_an_inner_one_of_its_kind(self):
        self.refused("errand a\ntry\nbut a\ntry\nbut b\nend\nbut c\nend\nend", 7)
        self.refused("errand a\ndo\nlast\ndo\nlast\nend\nlast\nend\nend", 7)
        self.refused("errand a\nlimit 5\nlate\nlimit 5\nlate\nwait 1\nend\nlate\nend\nend", 8)

    def test_once_more_at_the_last_line(self):
        self.refused("errand a\ntry\nbut a\nbut b", 4)
        self.refused("errand a\nlimit 5\nlate\nwait 1\nlate\n", 5)
        self.refused("errand a\ndo\nlast\nlast\n\n", 4)


class EndTests(RefusedCase):
    def test_of_a_try_without_but(self):
        self.refused("errand a\ntry\nend\nend", 3)
        self.refused("errand a\ntry\nwait 1\n\nend\nend", 5)
        self.refused("errand a\ntry\nend", 3)
        self.refused("errand a\ntry\nend\n", 3)
        self.refused("errand a\ntry\ntry\nbut any\nend\nend\nend", 6)
        self.refused("errand a\ntry\ntry\nend\nbut any\nend\nend", 4)
        self.refused("errand a\ntry\nbut any\ntry\nend\nend\nend", 5)

    def test_of_a_do_without_last(self):
        self.refused("errand a\ndo\nend\nend", 3)
        self.refused("errand a\ndo\nwait 1\n\nend\nend", 5)
        self.refused("errand a\ndo\nend", 3)
        self.refused("errand a\ndo\nend\n", 3)
        self.refused("errand a\ndo\ndo\nlast\nend\nend\nend", 6)
        self.refused("errand a\ndo\ndo\nend\nlast\nend\nend", 4)
        self.refused("errand a\ndo\nlast\ndo\nend\nend\nend", 5)

    def test_of_a_limit_right_behind_its_late(self):
        self.refused("errand a\nlimit 5\nlate\nend\nend", 4)
        self.refused("errand a\nlimit 5\nwait 1\nlate\nend\nend", 5)
        self.refused("errand a\nlimit 5\nwait 1\nlate\n\n   \nend\nend", 7)
        self.refused("errand a\nlimit 5\nlate\nend", 4)
        self.refused("errand a\nlimit 5\nlate\nend\n", 4)
        self.refused("errand a\nlimit 5\nlimit 6\nlate\nwait 1\nend\nlate\nend\nend", 8)
        self.refused("errand a\nlimit 5\nlate\nlimit 6\nlate\nend\nend\nend", 6)

    def test_right_ones_beside_these(self):
        self.taken("errand a\ntry\nbut any\nend\nend")
        self.taken("errand a\ndo\nlast\nend\nend")
        self.taken("errand a\nlimit 5\nend\nend")
        self.taken("errand a\nlimit 5\nlate\nwait 1\nend\nend")


def blocks(kind, many, inside=()):
    """Lines of so many blocks of a kind, each in the other's first part."""
    lines = [OPENERS[kind]] * many + list(inside)
    for level in range(many):
        lines += NEEDED.get(kind, []) + ["end"]
    return lines


class DepthTests(RefusedCase):
    def text(self, lines):
        return "\n".join(["errand a"] + lines + ["end"])

    def test_twenty_deep_is_right(self):
        for kind in OPENERS:
            self.taken(self.text(blocks(kind, 20, ["wait 1"])))

    def test_twenty_one_deep(self):
        for kind in OPENERS:
            self.refused(self.text(blocks(kind, 21)), 22)
            self.refused(self.text(["wait 1", ""] + blocks(kind, 21)), 24)
            self.refused(self.text(blocks(kind, 25)), 22)

    def test_each_block_in_twenty_others(self):
        for kind, opener in OPENERS.items():
            inside = [opener] + NEEDED.get(kind, []) + ["end"]
            self.taken(self.text(blocks("keep", 19, inside)))
            self.refused(self.text(blocks("keep", 20, inside)), 22)
            self.refused(self.text(blocks("keep", 20, ["wait 1"] + inside)), 23)

    def test_twenty_one_deep_in_the_second_parts(self):
        for kind, turn in TURNS.items():
            self.taken(self.text([OPENERS[kind], turn] * 20 + ["wait 1"] + ["end"] * 20))
            self.refused(self.text([OPENERS[kind], turn] * 21 + ["wait 1"] + ["end"] * 21), 42)

    def test_behind_blocks_that_have_ended(self):
        lines = blocks("keep", 20) + blocks("group", 21)
        self.refused(self.text(lines), 42 + 20)
        deep = ["keep"] * 20 + ["end", "keep", "keep"] + ["end"] * 21
        self.refused(self.text(deep), 24)
        self.taken(self.text(["keep"] * 20 + ["end", "keep"] + ["end"] * 20))

    def test_at_the_last_line_and_in_another_errand(self):
        self.refused("errand a\n" + "keep\n" * 20 + "keep", 22)
        self.refused("errand a\n" + "keep\n" * 20 + "keep\n\n", 22)
        self.refused("errand a\nend\nerrand b\n" + "keep\n" * 21 + "end\n" * 22, 24)


class TextEndTests(RefusedCase):
    def test_within_an_errand(self):
        self.refused("errand a", 1)
        self.refused("errand a\n", 2)
        self.refused("errand a\n\n\n", 4)
        self.refused("errand a\n   ", 2)
        self.refused("errand a\nwait 1", 2)
        self.refused("errand a\nwait 1\n", 3)
        self.refused("errand a\nwait 1\n\nring b\n \n", 6)

    def test_within_a_later_errand(self):
        self.refused("errand a\nend\nerrand b", 3)
        self.refused("errand a\nend\nerrand b\n", 4)
        self.refused("errand a\nend\nerrand b\nwait 1\n\n", 6)

    def test_within_a_block(self):
        for kind, opener in OPENERS.items():
            self.refused("errand a\n" + opener, 2)
            self.refused("errand a\n" + opener + "\n", 3)
            needed = "".join([line + "\n" for line in NEEDED.get(kind, [])])
            count = len(NEEDED.get(kind, []))
            self.refused("errand a\n" + opener + "\n" + needed + "end", 3 + count)
            self.refused("errand a\n" + opener + "\n" + needed + "end\n", 4 + count)

    def test_right_behind_a_turn(self):
        for kind, turn in TURNS.items():
            self.refused("errand a\n" + OPENERS[kind] + "\n" + turn, 3)
            self.refused("errand a\n" + OPENERS[kind] + "\n" + turn + "\n", 4)

    def test_with_no_errand(self):
        self.refused("", 1)
        self.refused(" ", 1)
        self.refused("     ", 1)
        self.refused("\n", 2)
        self.refused(" \n ", 2)
        self.refused("\n\n", 3)
        self.refused(" \n   \n\n", 4)
        self.refused("\n" * 100, 101)


class FirstWrongLineTests(RefusedCase):
    # Each of these lines is wrong by itself, right in an errand.
    wrong = ("wait 0", "none", "errand b", "late", "but any", "last", "\twait 1", "let x 1000000", "hear end", "wait")

    def test_of_two_wrong_lines_the_first_is_told(self):
        for first in self.wrong:
            for second in self.wrong:
                self.refused("errand a\n" + first + "\n" + second + "\nend", 2)
                self.refused("errand a\nwait 1\n" + first + "\nwait 1\n" + second, 3)

    def test_a_wrong_place_ahead_of_a_wrong_form(self):
        self.refused("wait 1\nnone\nerrand a\nend", 1)
        self.refused("errand a\ntry\nend\nnone\nend", 3)
        self.refused("errand a\ndo\nend\nwait 0\nend", 3)
        self.refused("errand a\nlimit 5\nlate\nend\nwait 100\nend", 4)
        self.refused("errand a\nend\nend\nnone", 3)
        self.refused("errand a\nerrand b\nhear end\nend\nend", 2)
        self.refused("errand a\n" + "keep\n" * 21 + "none\n" + "end\n" * 22, 22)

    def test_a_wrong_form_ahead_of_a_wrong_place(self):
        self.refused("none\nwait 1", 1)
        self.refused("errand a\nnone\ntry\nend\nend", 2)
        self.refused("errand a\nwait 0\nlimit 5\nlate\nend\nend", 2)
        self.refused("errand a\nhear end\nend\nend\nend", 2)
        self.refused("errand a\nnone\n" + "keep\n" * 21 + "end\n" * 22, 2)

    def test_of_two_wrong_places_the_first_is_told(self):
        self.refused("errand a\ntry\nend\ndo\nend\nend", 3)
        self.refused("errand a\ntry\ndo\nend\nend\nend", 4)
        self.refused("errand a\nlate\nend\nend", 2)
        self.refused("errand a\n" + "try\n" * 21 + "end\n" * 22, 22)
        self.refused("errand a\n" + "try\n" * 20 + "end\n" * 21, 22)
        self.refused("end\nend", 1)

    def test_a_wrong_line_ahead_of_a_text_that_ends_within_an_errand(self):
        self.refused("errand a\nnone\nwait 1", 2)
        self.refused("errand a\nlate\nwait 1\n", 2)
        self.refused("errand a\ntry\nend\n\n\n", 3)
        self.refused("wait 1\n\n\n", 1)

    def test_right_lines_behind_a_wrong_one_mend_nothing(self):
        self.refused("errand a\nwait 0\nend\nerrand b\nend", 2)
        self.refused("end\nerrand b\nend", 1)

    def test_the_refusal_is_taken_as_watch_error_and_as_value_error(self):
        for kind in (WatchError, ValueError):
            with self.assertRaises(kind):
                read("errand a\nnone\nend")


if __name__ == "__main__":
    unittest.main()
