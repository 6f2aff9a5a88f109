"""Programs that are let by, and the first thing for which others are refused [2.1], [2.3], [2.4]."""

import random
import unittest

from nightwatch.errors import BadProgram, WatchError
from nightwatch.looker import look
from nightwatch.reader import read

CLEAN_ROWS = (["wait 1"], ["ring a"], ["send a 5"], ["send a x"], ["let x 5"], ["when x 0", "end"], ["repeat 2", "end"])
# What may not stand in the last part of a do; each is right elsewhere, in a group g with a label one.
OTHER_ROWS = (
    ["hear a"], ["take a x"], ["raise a"], ["begin one run in g"], ["ask one x"], ["off one"], ["off g"],
    ["group k", "end"], ["limit 3", "end"], ["keep", "end"], ["try", "but any", "end"], ["do", "last", "end"],
)


def errand(lines, name="main"):
    return ["errand " + name] + list(lines) + ["end"]


RUN = errand([], "run")


def text_of(*errands):
    return "\n".join([line for lines in errands for line in lines])


class LookCase(unittest.TestCase):
    def refused(self, program, line, word):
        before = repr(program)
        with self.subTest(program=program):
            for time in range(2):
                with self.assertRaises(BadProgram) as caught:
                    look(program)
                self.assertEqual((caught.exception.line, caught.exception.word), (line, word))
            self.assertIs(type(caught.exception.line), int)
            self.assertIsInstance(caught.exception, WatchError)
            self.assertEqual(repr(program), before)

    def refused_text(self, line, word, *errands):
        self.refused(read(text_of(*errands)), line, word)

    def let_by(self, *errands):
        self.passes(read(text_of(*errands)))

    def passes(self, program):
        before = repr(program)
        with self.subTest(program=program):
            self.assertIs(look(program), program)
            self.assertIs(look(program), program)
            self.assertEqual(repr(program), before)


class CountTests(LookCase):
    def names(self, many):
        return ["abcdefghijklmnop"[place] * 2 for place in range(many)]

    def test_twelve_and_thirteen_errands(self):
        for many in (1, 2, 11, 12):
            self.let_by(*[errand(["wait 1"], name) for name in self.names(many)])
        for many in (13, 14, 16):
            self.refused_text(37, "many", *[errand(["wait 1"], name) for name in self.names(many)])
        lines = [errand(["wait 1"] * place, name) for place, name in enumerate(self.names(13))]
        self.refused_text(1 + sum([len(one) for one in lines[:12]]), "many", *lines)

    def test_two_hundred_rows_and_one_more(self):
        self.let_by(errand(["wait 1"] * 200))
        self.let_by(errand(["wait 1"] * 150, "a"), errand(["wait 1"] * 50))
        self.refused_text(202, "long", errand(["wait 1"] * 201))
        self.refused_text(202, "long", errand(["wait 1"] * 230))
        self.refused_text(204, "long", errand(["wait 1"] * 150, "a"), errand(["wait 1"] * 51))
        self.refused_text(206, "long", errand(["wait 1"] * 150, "a"), errand([], "b"), errand(["wait 1"] * 60))

    def test_blocks_and_what_stands_in_them_are_counted(self):
        self.let_by(errand(["keep"] + ["wait 1"] * 199 + ["end"]))
        self.refused_text(202, "long", errand(["keep"] + ["wait 1"] * 200 + ["end"]))
        self.let_by(errand(["keep", "end"] * 200))
        self.refused_text(402, "long", errand(["keep", "end"] * 201))
        self.let_by(errand(["do"] + ["wait 1"] * 99 + ["last"] + ["wait 1"] * 100 + ["end"]))
        self.refused_text(203, "long", errand(["do"] + ["wait 1"] * 99 + ["last"] + ["wait 1"] * 101 + ["end"]))
        self.refused_text(204, "long", errand(["try", "wait 1", "but a"] + ["wait 1"] * 198 + ["end", "wait 2"]))
        self.refused_text(203, "long", errand(["limit 9", "wait 1", "late"] + ["wait 1"] * 199 + ["end"]))

    def test_a_repeat_s_rows_are_counted_once(self):
        self.let_by(errand(["repeat 1"] + ["wait 1"] * 199 + ["end"]))
        self.refused_text(202, "long", errand(["repeat 9"] + ["wait 1"] * 200 + ["end"]))


class NameTests(LookCase):
    def test_two_errands_of_one_name(self):
        self.refused_text(3, "twice", errand([], "a"), errand([], "a"))
        self.refused_text(6, "twice", errand(["wait 1"], "a"), errand([], "b"), errand([], "a"))
        self.refused_text(5, "twice", errand([], "a"), errand([], "b"), errand([], "b"), errand([], "a"))
        self.let_by(errand([], "a"), errand([], "b"))

    def test_an_errand_of_the_name_of_a_bell_a_group_or_a_label(self):
        self.let_by(errand([], "a"), errand(["ring main", "group main", "begin a a in main", "ask a a", "end"]))


class DeepTests(LookCase):
    heads = (["keep"], ["group g"], ["limit 3"], ["try"], ["do"], ["when x 0"], ["repeat 1"])
    turns = {"try": ["but any"], "do": ["last"]}

    def nested(self, heads, lines):
        for head in reversed(heads):
            lines = head + lines + self.turns.get(head[0], []) + ["end"]
        return lines

    def test_six_deep_and_seven(self):
        for head in self.heads:
            if head != ["group g"]:
                self.let_by(errand(self.nested([head] * 6, ["wait 1"])))
                self.let_by(errand(self.nested([head] * 7, [])))
                self.refused_text(9, "deep", errand(self.nested([head] * 7, ["wait 1"])))
                self.refused_text(9, "deep", errand(self.nested([head] * 8, [])))
        mixed = [list(head) for head in self.heads]
        self.refused_text(9, "deep", errand(self.nested(mixed, ["wait 1"])))
        self.let_by(errand(self.nested(mixed[:6], ["wait 1"])))

    def test_the_second_parts_are_as_deep_as_the_first(self):
        keeps = [["keep"]] * 5
        for head, turn in (("limit 3", "late"), ("try", "but a"), ("do", "last")):
            self.let_by(errand(self.nested(keeps, [head, turn, "wait 1", "end"])))
            self.refused_text(10, "deep", errand(self.nested(keeps + [["keep"]], [head, turn, "wait 1", "end"])))

    def test_depth_is_counted_anew_behind_a_block(self):
        six = self.nested([["keep"]] * 6, ["wait 1"])
        self.let_by(errand(six + six + ["wait 1"]))
        self.let_by(errand(six, "a"), errand(six))

    def test_twenty_deep(self):
        self.refused_text(9, "deep", errand(self.nested([["keep"]] * 20, [])))


class LastTests(LookCase):
    def test_rows_that_may_stand_there(self):
        for lines in CLEAN_ROWS:
            self.let_by(errand(["do", "last"] + lines + ["end"]))
            self.let_by(errand(["do", "last", "repeat 2", "when x 0"] + lines + ["end", "end", "end"]))
        self.let_by(errand(["do", "last"] + [line for lines in CLEAN_ROWS for line in lines] + ["end"]))

    def test_rows_that_may_not(self):
        for lines in OTHER_ROWS:
            around = ["group g", "begin one run in g", "do"]
            self.let_by(RUN, errand(around + lines + ["last", "end", "end"]))
            self.refused_text(8, "last", RUN, errand(around + ["last"] + lines + ["end", "end"]))
            self.refused_text(10, "last", RUN, errand(around + ["last", "wait 1", "ring a"] + lines + ["end", "end"]))

    def test_however_deep(self):
        for lines in OTHER_ROWS:
            around = ["group g", "begin one run in g", "do", "last", "when x 0", "repeat 2"]
            self.refused_text(10, "last", RUN, errand(around + lines + ["end"] * 4))

    def test_a_give(self):
        self.refused_text(4, "last", errand(["do", "last", "give 1", "end"]))

    def test_a_do_in_another_one_and_rows_behind_it(self):
        self.let_by(errand(["do", "do", "hear a", "last", "wait 1", "end", "hear a", "last", "wait 2", "end", "hear a"]))
        self.refused_text(7, "last", errand(["do", "do", "last", "end", "last", "hear a", "end"]))
        self.refused_text(5, "last", errand(["do", "do", "last", "hear a", "end", "last", "end"]))

    def test_other_second_parts_are_free(self):
        self.let_by(errand(["try", "but any", "hear a", "end", "limit 3", "late", "hear a", "end"]))


class GiveTests(LookCase):
    def test_as_the_last_one(self):
        for value in ("0", "999999", "x", ":x"):
            self.let_by(errand(["give " + value]))
        self.let_by(errand(["wait 1", "keep", "end", "give 1"]))
        self.let_by(errand(["give 1"], "a"), errand(["give 1"]))

    def test_ahead_of_other_rows(self):
        self.refused_text(2, "give", errand(["give 1", "wait 1"]))
        self.refused_text(3, "give", errand(["wait 1", "give 1", "keep", "end"]))
        self.refused_text(2, "give", errand(["give 1", "give 1"]))
        self.refused_text(2, "give", errand(["give 1", "wait 1", "give 1"]))

    def test_two_that_are_alike(self):
        self.refused((("errand", 1, "a", (("give", 7, 1), ("give", 7, 1))),), 7, "give")

    def test_within_a_block(self):
        for head in ("keep", "group g", "limit 3", "when x 0", "repeat 1"):
            self.refused_text(3, "give", errand([head, "give 1", "end"]))
            self.refused_text(4, "give", errand([head, "keep", "give 1", "end", "end"]))
        self.refused_text(3, "give", errand(["try", "give 1", "but any", "end"]))
        self.refused_text(4, "give", errand(["try", "but any", "give 1", "end"]))
        self.refused_text(3, "give", errand(["do", "give 1", "last", "end"]))
        self.refused_text(4, "give", errand(["limit 3", "late", "give 1", "end"]))


class ErrandTests(LookCase):
    def test_one_ahead(self):
        self.let_by(errand([], "a"), errand(["group g", "begin x a in g", "end"]))
        self.let_by(errand([], "a"), errand([], "b"), errand(["group g", "begin x a in g", "begin y b in g", "end"]))

    def test_its_own_a_later_one_and_none(self):
        self.refused_text(3, "errand", errand(["group g", "begin x main in g", "end"]))
        self.refused_text(3, "errand", errand(["group g", "begin x b in g", "end"], "a"), errand([], "b"))
        self.refused_text(5, "errand", errand([], "a"), errand(["group g", "begin x b in g", "end"]))
        self.refused_text(5, "errand", errand([], "a"), errand(["group g", "begin a g in g", "end"]))
        self.refused_text(4, "errand", errand(["group g", "keep", "begin x main in g", "end", "end"]))

    def test_not_by_the_label_and_not_by_the_group(self):
        self.refused_text(5, "errand", errand([], "a"), errand(["group a", "begin a x in a", "end"]))


class GroupTests(LookCase):
    def test_a_begin_in_a_group_round_it(self):
        self.let_by(RUN, errand(["group g", "group k", "begin x run in g", "begin y run in k", "end", "end"]))
        for head, turn in (("keep", []), ("limit 3", []), ("when x 0", []), ("repeat 2", []), ("try", ["but a"]),
                           ("do", ["last"])):
            self.let_by(RUN, errand(["group g", head, "begin x run in g"] + turn + ["end", "end"]))
        self.let_by(RUN, errand(["group g", "limit 2", "late", "begin x run in g", "end", "end"]))
        self.let_by(RUN, errand(["group g", "try", "but any", "begin x run in g", "end", "end"]))

    def test_a_begin_in_none(self):
        self.refused_text(4, "group", RUN, errand(["begin x run in g"]))
        self.refused_text(6, "group", RUN, errand(["group g", "end", "begin x run in g"]))
        self.refused_text(4, "group", RUN, errand(["begin x run in g", "group g", "end"]))
        self.refused_text(5, "group", RUN, errand(["group k", "begin x run in g", "end", "group g", "end"]))
        self.refused_text(5, "group", RUN, errand(["group k", "begin x run in g", "group g", "end", "end"]))
        self.refused_text(5, "group", RUN, errand(["group g", "begin x run in run", "end"]))
        self.refused_text(6, "group", errand(["group g", "end"], "run"), errand(["begin x run in g"]))

    def test_a_group_within_one_of_its_name(self):
        self.refused_text(3, "group", errand(["group g", "group g", "end", "end"]))
        self.refused_text(5, "group", errand(["group g", "keep", "group k", "group g", "end", "end", "end", "end"]))
        self.refused_text(4, "group", errand(["group g", "do", "group g", "end", "last", "end", "end"]))
        self.refused_text(5, "group", errand(["group g", "try", "but any", "group g", "end", "end", "end"]))

    def test_groups_side_by_side(self):
        self.let_by(errand(["group g", "end", "group g", "end"]))
        self.let_by(errand(["group k", "group g", "end", "end", "group g", "group k", "end", "end"]))
        self.let_by(errand(["group g", "end"], "a"), errand(["group g", "end"]))
        self.let_by(errand(["try", "group g", "end", "but any", "group g", "end", "end"]))

    def test_an_errand_s_name_is_no_group(self):
        self.refused_text(4, "group", RUN, errand(["begin x run in main"]))


class LabelTests(LookCase):
    def test_the_name_of_a_group_anywhere(self):
        self.refused_text(5, "label", RUN, errand(["group g", "begin g run in g", "end"]))
        self.refused_text(5, "label", RUN, errand(["group g", "begin k run in g", "end", "group k", "end"]))
        self.refused_text(7, "label", RUN, errand(["group k", "end", "group g", "begin k run in g", "end"]))
        self.refused_text(5, "label", RUN, errand(["group g", "begin k run in g", "keep", "group k", "end", "end", "end"]))
        self.let_by(errand(["group k", "end"], "run"), errand(["group g", "begin k run in g", "end"]))

    def test_one_label_for_several(self):
        self.let_by(RUN, errand(["group g", "begin x run in g", "begin x run in g", "end"]))
        self.let_by(RUN, errand(["group g", "begin run run in g", "end"]))

    def test_an_ask_of_a_label_anywhere(self):
        self.let_by(RUN, errand(["ask x y", "group g", "begin x run in g", "end"]))
        self.let_by(RUN, errand(["group g", "begin x run in g", "ask x y", "end", "ask x x"]))
        self.let_by(RUN, errand(["group g", "keep", "begin x run in g", "end", "end", "try", "but a", "ask x y", "end"]))

    def test_an_ask_of_none(self):
        self.refused_text(2, "label", errand(["ask x y"]))
        self.refused_text(6, "label", RUN, errand(["group g", "begin x run in g", "ask y x", "end"]))
        self.refused_text(6, "label", RUN, errand(["group g", "begin x run in g", "ask g x", "end"]))
        self.refused_text(6, "label", RUN, errand(["group g", "begin x run in g", "ask run x", "end"]))
        a = errand(["group g", "begin x run in g", "end"], "a")
        self.refused_text(9, "label", RUN, a, errand(["ask x y"]))


class OffTests(LookCase):
    def test_a_label_anywhere(self):
        self.let_by(RUN, errand(["off x", "group g", "begin x run in g", "off x", "end", "off x"]))

    def test_a_group_round_it(self):
        self.let_by(errand(["group g", "off g", "keep", "off g", "end", "group k", "off g", "off k", "end", "end"]))
        self.let_by(errand(["group g", "try", "off g", "but any", "off g", "end", "end"]))
        self.let_by(errand(["group g", "do", "off g", "last", "end", "end"]))

    def test_neither(self):
        self.refused_text(2, "off", errand(["off g"]))
        self.refused_text(4, "off", errand(["group g", "end", "off g"]))
        self.refused_text(2, "off", errand(["off g", "group g", "end"]))
        self.refused_text(3, "off", errand(["group k", "off g", "group g", "end", "end"]))
        self.refused_text(6, "off", RUN, errand(["group g", "begin x run in g", "off run", "end"]))
        self.refused_text(9, "off", RUN, errand(["group g", "begin x run in g", "end"], "a"), errand(["off x"]))


class BoundTests(LookCase):
    def test_a_weight_of_three_hundred_and_one_more(self):
        self.let_by(errand(["repeat 9"] + ["wait 1"] * 33 + ["end", "wait 1"]))
        self.refused_text(1, "weight", errand(["repeat 9"] + ["wait 1"] * 33 + ["end", "wait 1", "wait 1"]))
        self.refused_text(3, "weight", errand([], "a"), errand(["repeat 9"] * 5 + ["wait 1"] + ["end"] * 5))

    def test_a_weight_of_errands_begun(self):
        run = errand(["wait 1"] * 98, "run")
        self.let_by(run, errand(["group g"] + ["begin x run in g"] * 2 + ["end"] + ["wait 1"] * 98))
        self.let_by(errand(["wait 1"] * 146, "run"), errand(["group g"] + ["begin x run in g"] * 2 + ["end", "give 1"]))
        self.let_by(errand(["wait 1"] * 98, "run"), errand(["group g"] + ["begin x run in g"] * 2 + ["end"]))
        three = ["group g"] + ["begin x run in g"] * 3 + ["end"]
        self.refused_text(101, "weight", run, errand(three))
        self.let_by(errand(["wait 1"] * 97, "run"), errand(three))

    def test_it_is_that_of_the_last_errand_alone(self):
        heavy = errand(["repeat 9"] + ["wait 1"] * 40 + ["end"], "a")
        self.let_by(heavy, errand([]))
        self.refused_text(45, "weight", heavy, errand(["group g", "begin x a in g", "end"]))

    def test_thirty_begun_and_one_more(self):
        self.let_by(RUN, errand(["group g"] + ["begin x run in g"] * 30 + ["end"]))
        self.refused_text(3, "begun", RUN, errand(["group g"] + ["begin x run in g"] * 31 + ["end"]))
        lines = ["group g", "repeat 5", "repeat 6", "begin x run in g", "end", "end", "end"]
        self.let_by(RUN, errand(lines))
        self.refused_text(3, "begun", RUN, errand(lines[:1] + ["begin y run in g"] + lines[1:]))
        mid = errand(["group g"] + ["begin x run in g"] * 9 + ["end"], "mid")
        self.let_by(RUN, mid, errand(["group g"] + ["begin x mid in g"] * 3 + ["end"]))
        self.refused_text(16, "begun", RUN, mid, errand(["group g"] + ["begin x mid in g"] * 3 + ["begin y run in g", "end"]))


class OrderTests(LookCase):
    def test_many_ahead_of_all(self):
        lines = [errand(["give 1"] + ["wait 1"] * 20, "a") for place in range(13)]
        self.refused_text(12 * 23 + 1, "many", *lines)

    def test_long_ahead_of_what_is_wrong_in_errands(self):
        self.refused_text(202, "long", errand(["off x"] + ["wait 1"] * 200))
        self.refused_text(206, "long", errand([], "a"), errand([], "a"), errand(["wait 1"] * 201))

    def test_an_errand_s_name_ahead_of_its_rows(self):
        self.refused_text(3, "twice", errand([], "a"), errand(["off x"], "a"))

    def test_an_errand_ahead_of_later_ones(self):
        self.refused_text(2, "off", errand(["off x"], "a"), errand([], "a"))
        self.refused_text(2, "off", errand(["off x"], "a"), errand(["ask x y"], "b"))
        self.refused_text(3, "label", errand(["wait 1", "ask x y"], "a"), errand(["off x"], "b"))

    def test_rows_as_they_are_walked(self):
        self.refused_text(3, "off", errand(["keep", "off x", "end", "ask x y"]))
        self.refused_text(3, "off", errand(["try", "off x", "but any", "ask x y", "end"]))
        self.refused_text(4, "label", errand(["try", "but any", "ask x y", "end", "off x"]))
        self.refused_text(2, "label", errand(["ask x y", "off x"]))
        self.refused_text(3, "group", errand(["group g", "group g", "off x", "end", "end"]))

    def test_rows_of_falling_lines(self):
        program = (("errand", 9, "a", (("keep", 8, (("off", 7, "x"),)), ("off", 6, "y"))), ("errand", 5, "a", ()))
        self.refused(program, 7, "off")
        self.refused((("errand", 9, "a", ()), ("errand", 5, "a", ())), 5, "twice")

    def test_of_one_row_the_first(self):
        seven = ["keep"] * 7
        self.refused_text(9, "deep", errand(seven + ["give 1"] + ["end"] * 7))
        self.refused_text(10, "deep", errand(["do", "last"] + ["when x 0"] * 6 + ["hear a"] + ["end"] * 7))
        self.refused_text(9, "deep", errand(seven + ["begin x none in none"] + ["end"] * 7))
        self.refused_text(9, "deep", errand(seven + ["ask x y"] + ["end"] * 7))
        self.refused_text(9, "deep", errand(seven + ["off x"] + ["end"] * 7))
        self.refused_text(4, "last", errand(["do", "last", "give 1", "end"]))
        self.refused_text(4, "last", errand(["do", "last", "begin x none in none", "end"]))
        self.refused_text(5, "last", errand(["group g", "do", "last", "group g", "end", "end", "end"]))
        self.refused_text(4, "last", errand(["do", "last", "ask x y", "end"]))
        self.refused_text(4, "last", errand(["do", "last", "off x", "end"]))
        self.refused_text(2, "errand", errand(["begin g none in k", "group g", "end"]))
        self.refused_text(4, "group", RUN, errand(["begin g run in k", "group g", "end"]))
        self.refused_text(3, "errand", errand(["group g", "begin g none in g", "end"]))

    def test_rows_ahead_of_the_weight_and_that_ahead_of_how_many_are_begun(self):
        heavy = ["repeat 9"] * 5 + ["wait 1"] + ["end"] * 5
        self.refused_text(13, "off", errand(heavy + ["off x"]))
        begins = ["group g", "repeat 9", "repeat 9", "begin x run in g", "end", "end", "end"]
        self.refused_text(3, "begun", RUN, errand(begins))
        self.refused_text(3, "weight", RUN, errand(begins + heavy[:1] + ["wait 1"] * 20 + ["end"]))
        self.refused_text(3, "weight", RUN, errand(begins + heavy))


WORDS = ("wait", "hear", "ring", "send", "take", "let", "raise", "begin", "ask", "off", "give", "group", "limit",
         "keep", "try", "do", "when", "repeat")


# Another way to the same answer: each row beside the list of what it stands in, as (row, part) pairs.
def with_ways(rows, way=()):
    for row in rows:
        yield row, way
        inner = [field for field in row if isinstance(field, tuple)]
        for place, part in enumerate(inner):
            yield from with_ways(part, way + ((row, place),))


def wrong_of_row(row, way, errands, place):
    own = list(with_ways(errands[place][3]))
    round_it = [outer[2] for outer, part in way if outer[0] == "group"]
    labels = [other[2] for other, other_way in own if other[0] == "begin"]
    groups = [other[2] for other, other_way in own if other[0] == "group"]
    in_last = any([outer[0] == "do" and part == 1 for outer, part in way])
    ahead = [one[2] for one in errands[:place]]
    tests = (
        ("deep", len(way) > 6),
        ("last", in_last and row[0] not in "wait ring send let when repeat".split()),
        ("give", row[0] == "give" and not (way == () and row is errands[place][3][-1])),
        ("errand", row[0] == "begin" and row[3] not in ahead),
        ("group", row[0] == "begin" and row[4] not in round_it or row[0] == "group" and row[2] in round_it),
        ("label", row[0] == "begin" and row[2] in groups or row[0] == "ask" and row[2] not in labels),
        ("off", row[0] == "off" and row[2] not in labels + round_it),
    )
    return [word for word, wrong in tests if wrong]


def first_wrong(program):
    for place, errand_row in enumerate(program):
        if errand_row[2] in [one[2] for one in program[:place]]:
            return errand_row[1], "twice"
        for row, way in with_ways(errand_row[3]):
            words = wrong_of_row(row, way, program, place)
            if words:
                return row[1], words[0]
    return None


class MadeTests(LookCase):
    def row(self, chance, deep):
        self.line += 1
        line, kind = self.line, chance.choice(WORDS if deep < 9 else WORDS[:10])
        name = lambda: chance.choice("abg")
        rows = lambda: tuple([self.row(chance, deep + 1) for place in range(chance.choice((0, 1, 1, 2)))])
        own = {
            "wait": (3,), "hear": ("a",), "ring": ("a",), "send": ("a", 1), "take": ("a", "b"), "let": ("a", 0),
            "raise": ("a",), "begin": (name(), name(), name(), 0), "ask": (name(), "x"), "off": (name(),),
            "give": (1,), "group": (name(),), "limit": (5,), "keep": (), "try": (), "do": (), "when": ("a", 0),
            "repeat": (2,),
        }[kind]
        row = (kind, line) + own
        if kind in WORDS[11:]:
            row += (rows(),)
        if kind == "try":
            row += ("any",)
        return row + (rows(),) if kind in ("limit", "try", "do") else row

    def test_made_programs(self):
        chance = random.Random(23)
        told = {}
        for number in range(3000):
            self.line = 0
            program = tuple([
                ("errand", 1000 + place, chance.choice("abcdefgh"),
                 tuple([self.row(chance, chance.choice((0, 0, 5))) for row in range(chance.randint(0, 3))]))
                for place in range(chance.randint(1, 3))
            ])
            wrong = first_wrong(program)
            if wrong is not None:
                told[wrong[1]] = told.get(wrong[1], 0) + 1
                self.refused(program, wrong[0], wrong[1])
        self.assertEqual(sorted(told), ["deep", "errand", "give", "group", "label", "last", "off", "twice"])

    def test_made_rows_of_one_kind_in_ways_of_all_kinds(self):
        chance = random.Random(24)
        for number in range(400):
            self.line = 0
            inner = self.row(chance, 9)
            for place in range(chance.randint(0, 8)):
                self.line += 1
                kind = chance.choice(("keep", "when", "do", "group"))
                inner = {"keep": ("keep", self.line, (inner,)), "when": ("when", self.line, "x", 0, (inner,)),
                         "do": ("do", self.line, (), (inner,)), "group": ("group", self.line, "g", (inner,))}[kind]
            program = (("errand", 500, "a", ()), ("errand", 501, "m", (inner,)))
            wrong = first_wrong(program)
            if wrong is None:
                self.passes(program)
            else:
                self.refused(program, wrong[0], wrong[1])


if __name__ == "__main__":
    unittest.main()
