"""Texts that are read to programs [1.4], and the form that these have [1.2]."""

import random
import unittest

from nightwatch.errors import BadRow
from nightwatch.reader import read
from nightwatch.rows import parts, walk

KEY_WORDS = (
    "any ask begin but do end errand give group hear in keep last late let limit off raise repeat ring send "
    "take try wait when within"
).split()


def in_errand(lines):
    return "\n".join(["errand main"] + lines + ["end"])


def rows_of(lines):
    """The rows of one errand with these lines, the first of them being line 2."""
    program = read(in_errand(lines))
    return program[0][3]


# Lines that are rows by themselves, each with its tuple but for the line's number.
PLAIN = (
    ("wait 1", ("wait", 1)),
    ("wait 9", ("wait", 9)),
    ("wait 10", ("wait", 10)),
    ("wait 99", ("wait", 99)),
    ("hear gate", ("hear", "gate")),
    ("ring gate", ("ring", "gate")),
    ("send post 0", ("send", "post", 0)),
    ("send post 999999", ("send", "post", 999999)),
    ("send post word", ("send", "post", "word")),
    ("send post :word", ("send", "post", ":word")),
    ("take post word", ("take", "post", "word")),
    ("take word post", ("take", "word", "post")),
    ("let x 0", ("let", "x", 0)),
    ("let x 1", ("let", "x", 1)),
    ("let x 10", ("let", "x", 10)),
    ("let x 100000", ("let", "x", 100000)),
    ("let x 999999", ("let", "x", 999999)),
    ("let x y", ("let", "x", "y")),
    ("let x x", ("let", "x", "x")),
    ("let x :y", ("let", "x", ":y")),
    ("let x :abcdefgh", ("let", "x", ":abcdefgh")),
    ("let abcdefgh zzzzzzzz", ("let", "abcdefgh", "zzzzzzzz")),
    ("raise torn", ("raise", "torn")),
    ("begin one run in all", ("begin", "one", "run", "all", 0)),
    ("begin run one in main", ("begin", "run", "one", "main", 0)),
    ("begin a a in a", ("begin", "a", "a", "a", 0)),
    ("begin one run in all within 1", ("begin", "one", "run", "all", 1)),
    ("begin one run in all within 9", ("begin", "one", "run", "all", 9)),
    ("begin one run in all within 99", ("begin", "one", "run", "all", 99)),
    ("ask one x", ("ask", "one", "x")),
    ("ask x one", ("ask", "x", "one")),
    ("off all", ("off", "all")),
    ("give 0", ("give", 0)),
    ("give 999999", ("give", 999999)),
    ("give x", ("give", "x")),
    ("give :off", ("give", ":off")),
)


def with_line(fields, line):
    return (fields[0], line) + fields[1:]


def check_kinds(case, thing):
    """Tuples, texts and whole numbers alone, all through."""
    if type(thing) is tuple:
        for inner in thing:
            check_kinds(case, inner)
    else:
        case.assertIn(type(thing), (int, str))


class PlainRowTests(unittest.TestCase):
    def test_each_form(self):
        for line, fields in PLAIN:
            with self.subTest(line=line):
                program = read(in_errand([line]))
                self.assertEqual(program, (("errand", 1, "main", (with_line(fields, 2),)),))
                check_kinds(self, program)

    def test_all_of_them_in_one_errand(self):
        rows = rows_of([line for line, fields in PLAIN])
        told = [with_line(fields, place + 2) for place, (line, fields) in enumerate(PLAIN)]
        self.assertEqual(rows, tuple(told))

    def test_key_words_behind_a_colon(self):
        for word in KEY_WORDS:
            with self.subTest(word=word):
                self.assertEqual(rows_of(["give :" + word]), (("give", 2, ":" + word),))

    def test_each_number_of_the_bounds(self):
        for n in range(1, 100):
            lines = ["wait %d" % n, "begin a b in c within %d" % n, "limit %d" % n, "end"]
            told = (("wait", 2, n), ("begin", 3, "a", "b", "c", n), ("limit", 4, n, (), ()))
            self.assertEqual(rows_of(lines), told)
        for n in range(1, 10):
            self.assertEqual(rows_of(["repeat %d" % n, "end"]), (("repeat", 2, n, ()),))

    def test_nought_is_a_value(self):
        lines = ["send a 0", "let a 0", "give 0", "when a 0", "end"]
        told = (("send", 2, "a", 0), ("let", 3, "a", 0), ("give", 4, 0), ("when", 5, "a", 0, ()))
        self.assertEqual(rows_of(lines), told)
        check_kinds(self, read(in_errand(lines)))

    def test_names_near_key_words(self):
        for name in ("i", "an", "ins", "ends", "lates", "withi", "buts", "anyone"):
            lines = ["hear " + name, "let " + name + " " + name, "begin " + name + " " + name + " in " + name]
            told = (("hear", 2, name), ("let", 3, name, name), ("begin", 4, name, name, name, 0))
            self.assertEqual(rows_of(lines), told)


class BlockTests(unittest.TestCase):
    def check(self, lines, told):
        program = read(in_errand(lines))
        self.assertEqual(program, (("errand", 1, "main", told),))
        check_kinds(self, program)

    def test_group(self):
        self.check(["group all", "end"], (("group", 2, "all", ()),))
        self.check(["group all", "wait 1", "ring a", "end"], (("group", 2, "all", (("wait", 3, 1), ("ring", 4, "a"))),))

    def test_limit_without_late(self):
        self.check(["limit 7", "end"], (("limit", 2, 7, (), ()),))
        self.check(["limit 7", "wait 1", "ring a", "end"],
                   (("limit", 2, 7, (("wait", 3, 1), ("ring", 4, "a")), ()),))

    def test_limit_with_late(self):
        self.check(["limit 7", "wait 1", "late", "ring a", "end"],
                   (("limit", 2, 7, (("wait", 3, 1),), (("ring", 5, "a"),)),))
        self.check(["limit 7", "late", "ring a", "ring b", "end"],
                   (("limit", 2, 7, (), (("ring", 4, "a"), ("ring", 5, "b"))),))
        self.check(["limit 7", "late", "keep", "end", "end"], (("limit", 2, 7, (), (("keep", 4, ()),)),))

    def test_limits_in_both_parts_of_a_limit(self):
        self.check(["limit 1", "limit 2", "late", "wait 2", "end", "late", "limit 3", "late", "wait 3", "end", "end"],
                   (("limit", 2, 1, (("limit", 3, 2, (), (("wait", 5, 2),)),),
                     (("limit", 8, 3, (), (("wait", 10, 3),)),)),))

    def test_keep(self):
        self.check(["keep", "end"], (("keep", 2, ()),))
        self.check(["keep", "wait 1", "wait 2", "end"], (("keep", 2, (("wait", 3, 1), ("wait", 4, 2))),))

    def test_try_but_name(self):
        self.check(["try", "but torn", "end"], (("try", 2, (), "torn", ()),))
        self.check(["try", "wait 1", "but torn", "ring a", "end"],
                   (("try", 2, (("wait", 3, 1),), "torn", (("ring", 5, "a"),)),))
        self.check(["try", "wait 1", "but torn", "end"], (("try", 2, (("wait", 3, 1),), "torn", ()),))
        self.check(["try", "but torn", "wait 1", "end"], (("try", 2, (), "torn", (("wait", 4, 1),)),))

    def test_try_but_any(self):
        self.check(["try", "but any", "end"], (("try", 2, (), "any", ()),))
        self.check(["try", "wait 1", "but any", "ring a", "end"],
                   (("try", 2, (("wait", 3, 1),), "any", (("ring", 5, "a"),)),))

    def test_tries_in_both_parts_of_a_try(self):
        self.check(["try", "try", "but a", "end", "but b", "try", "but any", "wait 1", "end", "end"],
                   (("try", 2, (("try", 3, (), "a", ()),), "b", (("try", 7, (), "any", (("wait", 9, 1),)),)),))

    def test_do(self):
        self.check(["do", "last", "end"], (("do", 2, (), ()),))
        self.check(["do", "wait 1", "last", "ring a", "end"], (("do", 2, (("wait", 3, 1),), (("ring", 5, "a"),)),))
        self.check(["do", "wait 1", "last", "end"], (("do", 2, (("wait", 3, 1),), ()),))
        self.check(["do", "last", "wait 1", "end"], (("do", 2, (), (("wait", 4, 1),)),))

    def test_dos_in_both_parts_of_a_do(self):
        # Whether a do may stand in a clean-up is not the reader's to say.
        self.check(["do", "do", "last", "wait 1", "end", "last", "do", "wait 2", "last", "end", "end"],
                   (("do", 2, (("do", 3, (), (("wait", 5, 1),)),), (("do", 8, (("wait", 9, 2),), ()),)),))

    def test_when(self):
        self.check(["when x 0", "end"], (("when", 2, "x", 0, ()),))
        self.check(["when x 999999", "wait 1", "end"], (("when", 2, "x", 999999, (("wait", 3, 1),)),))
        self.check(["when x y", "end"], (("when", 2, "x", "y", ()),))
        self.check(["when x :late", "end"], (("when", 2, "x", ":late", ()),))

    def test_repeat(self):
        self.check(["repeat 1", "end"], (("repeat", 2, 1, ()),))
        self.check(["repeat 9", "wait 1", "ring a", "end"], (("repeat", 2, 9, (("wait", 3, 1), ("ring", 4, "a"))),))

    def test_rows_behind_a_block_stand_beside_it(self):
        self.check(["keep", "wait 1", "end", "wait 2", "do", "last", "end", "wait 3"],
                   (("keep", 2, (("wait", 3, 1),)), ("wait", 5, 2), ("do", 6, (), ()), ("wait", 9, 3)))

    def test_the_first_part_goes_on_behind_an_inner_block_s_turn(self):
        self.check(["do", "try", "but any", "wait 1", "end", "wait 2", "last", "wait 3", "end"],
                   (("do", 2, (("try", 3, (), "any", (("wait", 5, 1),)), ("wait", 7, 2)), (("wait", 9, 3),)),))

    def test_what_the_looker_refuses_is_read(self):
        # Names and places that only stage 2 looks at are no fault of the text.
        self.check(["give 1", "ask none x", "begin a main in nowhere", "off nobody", "group g", "group g", "end", "end"],
                   (("give", 2, 1), ("ask", 3, "none", "x"), ("begin", 4, "a", "main", "nowhere", 0),
                    ("off", 5, "nobody"), ("group", 6, "g", (("group", 7, "g", ()),))))


class DepthTests(unittest.TestCase):
    openers = {"group": "group g", "limit": "limit 5", "keep": "keep", "try": "try", "do": "do", "when": "when x 0",
               "repeat": "repeat 2"}
    turns = {"try": "but any", "do": "last"}

    def test_each_block_twenty_deep_with_a_row_in_it(self):
        for kind in self.openers:
            lines = [self.openers[kind]] * 20 + ["wait 5"]
            for level in range(20):
                lines += ([self.turns[kind]] if kind in self.turns else []) + ["end"]
            with self.subTest(kind=kind):
                row = rows_of(lines)[0]
                for line in range(2, 22):
                    self.assertEqual(row[:2], (kind, line))
                    row = parts(row)[0][0]
                self.assertEqual(row, ("wait", 22, 5))

    def test_twenty_deep_in_the_second_parts(self):
        for kind, turn in (("limit", "late"), ("try", "but any"), ("do", "last")):
            lines = [self.openers[kind], turn] * 20 + ["wait 5"] + ["end"] * 20
            with self.subTest(kind=kind):
                row = rows_of(lines)[0]
                for line in range(2, 42, 2):
                    self.assertEqual(row[:2], (kind, line))
                    self.assertEqual(parts(row)[0], ())
                    row = parts(row)[1][0]
                self.assertEqual(row, ("wait", 42, 5))

    def test_blocks_beside_one_another_count_for_no_depth(self):
        deep = ["keep"] * 20 + ["end"] * 20
        rows = rows_of(deep * 3)
        self.assertEqual([row[1] for row in rows], [2, 42, 82])
        self.assertEqual(len(walk(rows)), 60)
        self.assertEqual(len(rows_of(["keep", "end"] * 50)), 50)

    def test_each_errand_counts_anew(self):
        text = "\n".join((["errand a"] + ["keep"] * 20 + ["end"] * 21) * 2)
        self.assertEqual([len(walk(errand[3])) for errand in read(text)], [20, 20])


class ErrandTests(unittest.TestCase):
    def test_an_empty_errand(self):
        self.assertEqual(read("errand a\nend"), (("errand", 1, "a", ()),))

    def test_several_errands(self):
        text = "errand a\nwait 1\nend\nerrand b\nend\nerrand abcdefgh\nkeep\nend\nend\n"
        told = (("errand", 1, "a", (("wait", 2, 1),)), ("errand", 4, "b", ()),
                ("errand", 6, "abcdefgh", (("keep", 7, ()),)))
        self.assertEqual(read(text), told)
        check_kinds(self, read(text))

    def test_errands_of_one_name(self):
        self.assertEqual(read("errand a\nend\nerrand a\nend"), (("errand", 1, "a", ()), ("errand", 3, "a", ())))

    def test_many_errands_and_many_rows(self):
        program = read("errand a\nend\n" * 40)
        self.assertEqual([errand[1] for errand in program], list(range(1, 81, 2)))
        rows = rows_of(["wait 1"] * 500)
        self.assertEqual(rows, tuple([("wait", line, 1) for line in range(2, 502)]))


class LineTests(unittest.TestCase):
    told = (("errand", 1, "main", (("begin", 2, "a", "b", "g", 5), ("wait", 3, 1))),)

    def test_with_and_without_a_last_line_end(self):
        text = "errand main\nbegin a b in g within 5\nwait 1\nend"
        self.assertEqual(read(text), self.told)
        self.assertEqual(read(text + "\n"), self.told)
        self.assertEqual(read(text + "\n\n\n"), self.told)
        self.assertEqual(read(text + "\n   "), self.told)

    def test_blanks_ahead_behind_and_between(self):
        text = "  errand   main \n begin a  b   in    g within  5   \n      wait      1\nend "
        self.assertEqual(read(text), self.told)
        many = " " * 300
        self.assertEqual(read(many + "errand" + many + "main" + many + "\n" + "begin a b in g within 5\nwait" + many
                              + "1\n" + many + "end"), self.told)

    def test_blanks_ahead_say_nothing_of_where_a_row_stands(self):
        text = "errand main\nkeep\n        wait 1\n  end\nwait 2\n    end"
        self.assertEqual(read(text), (("errand", 1, "main", (("keep", 2, (("wait", 3, 1),)), ("wait", 5, 2))),))

    def test_blanks_round_words_that_stand_alone(self):
        lines = ["  try ", "   but   any  ", " end  ", " do", "last ", "  end", " limit  3 ", " late ", " keep ", " end ",
                 "end "]
        told = (("try", 2, (), "any", ()), ("do", 5, (), ()), ("limit", 8, 3, (), (("keep", 10, ()),)))
        self.assertEqual(rows_of(lines), told)

    def test_lines_of_blanks_alone_are_counted_and_no_more(self):
        text = "\n   \nerrand main\n\n  keep\n \n\n   wait 1\n\n  end\n\nend\n\n\nerrand b\n\nend\n \n"
        told = (("errand", 3, "main", (("keep", 5, (("wait", 8, 1),)),)), ("errand", 15, "b", ()))
        self.assertEqual(read(text), told)

    def test_lines_of_blanks_round_turns(self):
        text = "errand main\nlimit 2\n\nlate\n\nwait 1\n\nend\ntry\n\nbut a\n\nend\ndo\n\nlast\n\nend\nend"
        told = (("limit", 2, 2, (), (("wait", 6, 1),)), ("try", 9, (), "a", ()), ("do", 14, (), ()))
        self.assertEqual(read(text)[0][3], told)

    def test_a_row_s_line_is_that_of_its_first_word(self):
        text = "\nerrand main\n\ndo\nlimit 5\n\nwait 1\nlate\nwait 2\nend\nlast\nwhen x 0\nwait 3\nend\nend\nend"
        lines = [(row[0], row[1]) for row in walk(read(text)[0][3])]
        self.assertEqual(read(text)[0][1], 2)
        self.assertEqual(lines, [("do", 4), ("limit", 5), ("wait", 7), ("wait", 9), ("when", 12), ("wait", 13)])


class AgainTests(unittest.TestCase):
    right = "errand a\nlimit 5\nwait 1\nlate\nring b\nend\nend\nerrand b\nend\n"
    told = (("errand", 1, "a", (("limit", 2, 5, (("wait", 3, 1),), (("ring", 5, "b"),)),)), ("errand", 8, "b", ()))

    def refused_at(self, text):
        with self.assertRaises(BadRow) as caught:
            read(text)
        return caught.exception.line

    def test_behind_a_right_text(self):
        self.assertEqual(read(self.right), self.told)
        self.assertEqual(read("errand other\ntry\nbut any\nend\nend"), (("errand", 1, "other", (("try", 2, (), "any", ()),)),))
        self.assertEqual(read(self.right), self.told)

    def test_behind_wrong_texts(self):
        wrong = ("errand a\nlimit 5\nlate\n", "errand a\n" + "keep\n" * 21, "errand a\nend\nend", "", "errand a\nnone",
                 "errand a\nend\nerrand b\ntry\nend")
        for text in wrong:
            with self.subTest(text=text):
                first = self.refused_at(text)
                self.assertEqual(read(self.right), self.told)
                self.assertEqual(self.refused_at(text), first)

    def test_a_wrong_text_behind_a_right_one(self):
        self.assertEqual(self.refused_at("wait 1"), 1)
        read(self.right)
        self.assertEqual(self.refused_at("wait 1"), 1)
        self.assertEqual(self.refused_at("end"), 1)
        self.assertEqual(self.refused_at(""), 1)

    def test_what_was_told_stays(self):
        first = read(self.right)
        read("errand z\nend")
        self.assertEqual(first, self.told)


# Programs made by a fixed row of chances, written with blanks as it comes, and read again.
class MadeTests(unittest.TestCase):
    def name(self, chance):
        while True:
            name = "".join([chance.choice("abcdeinoty") for place in range(chance.randint(1, 8))])
            if name not in KEY_WORDS:
                return name

    def value(self, chance):
        return chance.choice((0, chance.randint(0, 999999), self.name(chance), ":" + chance.choice(KEY_WORDS)))

    def plain(self, chance):
        name = self.name
        return chance.choice((
            ("wait", chance.randint(1, 99)), ("hear", name(chance)), ("ring", name(chance)),
            ("send", name(chance), self.value(chance)), ("take", name(chance), name(chance)),
            ("let", name(chance), self.value(chance)), ("raise", name(chance)),
            ("begin", name(chance), name(chance), name(chance), chance.choice((0, 1, 50, 99))),
            ("ask", name(chance), name(chance)), ("off", name(chance)), ("give", self.value(chance)),
        ))

    def put(self, chance, lines, words):
        """One more line, and perhaps blank ones ahead of it; its number."""
        while chance.randint(0, 5) == 0:
            lines.append(" " * chance.randint(0, 2))
        blanks = [" " * chance.randint(1, 2) for word in words]
        lines.append(blanks[0] + "".join([str(word) + blank for word, blank in zip(words, blanks)]))
        return len(lines)

    def rows(self, chance, lines, depth, least=0):
        told = []
        for place in range(chance.randint(least, 4)):
            if depth < 20 and chance.randint(0, 2) == 0:
                told.append(self.block(chance, lines, depth + 1))
            else:
                row = self.plain(chance)
                line = self.put(chance, lines, self.words_of(row))
                told.append(with_line(row, line))
        return tuple(told)

    def words_of(self, row):
        if row[0] != "begin":
            return row
        return row[:3] + ("in", row[3]) + (("within", row[4]) if row[4] else ())

    def block(self, chance, lines, depth):
        kind = chance.choice(("group", "limit", "keep", "try", "do", "when", "repeat"))
        own = {"group": (self.name(chance),), "limit": (chance.randint(1, 99),), "repeat": (chance.randint(1, 9),),
               "when": (self.name(chance), self.value(chance))}.get(kind, ())
        line = self.put(chance, lines, (kind,) + own)
        told = (kind, line) + own + (self.rows(chance, lines, depth),)
        if kind == "limit":
            told += (self.late(chance, lines, depth),)
        if kind == "try":
            fault = chance.choice(("any", self.name(chance)))
            self.put(chance, lines, ("but", fault))
            told += (fault, self.rows(chance, lines, depth))
        if kind == "do":
            self.put(chance, lines, ("last",))
            told += (self.rows(chance, lines, depth),)
        self.put(chance, lines, ("end",))
        return told

    def late(self, chance, lines, depth):
        if chance.randint(0, 1) == 0:
            return ()
        self.put(chance, lines, ("late",))
        return self.rows(chance, lines, depth, 1)

    def test_made_programs(self):
        chance = random.Random(1116)
        for number in range(200):
            lines = []
            program = []
            for errand in range(chance.randint(1, 4)):
                name = self.name(chance)
                line = self.put(chance, lines, ("errand", name))
                program.append(("errand", line, name, self.rows(chance, lines, 0)))
                self.put(chance, lines, ("end",))
            with self.subTest(number=number):
                self.assertEqual(read("\n".join(lines)), tuple(program))


if __name__ == "__main__":
    unittest.main()
