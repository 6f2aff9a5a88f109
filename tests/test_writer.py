"""Programs that are written as texts, and the numbers of their lines [1.6]."""

import random
import unittest

from nightwatch.reader import read
from nightwatch.writer import numbered, written

NAMES = ("a", "gate", "abcdefgh", "zz", "none", "ende")
VALUES = (0, 1, 10, 999999, "gate", "zz", ":a", ":late", ":abcdefgh")

# Rows that are no blocks, each but for its line, and how it is written.
PLAIN = (
    (("wait", 1), "wait 1"),
    (("wait", 99), "wait 99"),
    (("hear", "gate"), "hear gate"),
    (("ring", "abcdefgh"), "ring abcdefgh"),
    (("send", "post", 0), "send post 0"),
    (("send", "post", 999999), "send post 999999"),
    (("send", "post", "word"), "send post word"),
    (("send", "post", ":word"), "send post :word"),
    (("take", "post", "word"), "take post word"),
    (("let", "x", 0), "let x 0"),
    (("let", "x", 100000), "let x 100000"),
    (("let", "x", "y"), "let x y"),
    (("let", "x", ":end"), "let x :end"),
    (("raise", "torn"), "raise torn"),
    (("begin", "one", "run", "all", 0), "begin one run in all"),
    (("begin", "one", "run", "all", 1), "begin one run in all within 1"),
    (("begin", "one", "run", "all", 99), "begin one run in all within 99"),
    (("ask", "one", "x"), "ask one x"),
    (("off", "all"), "off all"),
    (("give", 0), "give 0"),
    (("give", 999999), "give 999999"),
    (("give", "x"), "give x"),
    (("give", ":off"), "give :off"),
)

# Blocks with no rows in them, each but for its line, and how it is written.
EMPTY = (
    (("group", "all", ()), ["group all", "end"]),
    (("limit", 1, (), ()), ["limit 1", "end"]),
    (("limit", 99, (), ()), ["limit 99", "end"]),
    (("keep", ()), ["keep", "end"]),
    (("try", (), "torn", ()), ["try", "but torn", "end"]),
    (("try", (), "any", ()), ["try", "but any", "end"]),
    (("do", (), ()), ["do", "last", "end"]),
    (("when", "x", 0, ()), ["when x 0", "end"]),
    (("when", "x", "y", ()), ["when x y", "end"]),
    (("when", "x", ":late", ()), ["when x :late", "end"]),
    (("repeat", 1, ()), ["repeat 1", "end"]),
    (("repeat", 9, ()), ["repeat 9", "end"]),
)

# One block of each kind with a row in each of its parts, and its numbered rows where its own line is 2.
FILLED = (
    (("group", 7, "all", (("wait", 7, 1),)),
     "  group all\n    wait 1\n  end\n",
     ("group", 2, "all", (("wait", 3, 1),))),
    (("limit", 7, 5, (("wait", 7, 1),), (("wait", 7, 2),)),
     "  limit 5\n    wait 1\n  late\n    wait 2\n  end\n",
     ("limit", 2, 5, (("wait", 3, 1),), (("wait", 5, 2),))),
    (("limit", 7, 5, (), (("wait", 7, 2),)),
     "  limit 5\n  late\n    wait 2\n  end\n",
     ("limit", 2, 5, (), (("wait", 4, 2),))),
    (("limit", 7, 5, (("wait", 7, 1),), ()),
     "  limit 5\n    wait 1\n  end\n",
     ("limit", 2, 5, (("wait", 3, 1),), ())),
    (("keep", 7, (("wait", 7, 1),)),
     "  keep\n    wait 1\n  end\n",
     ("keep", 2, (("wait", 3, 1),))),
    (("try", 7, (("wait", 7, 1),), "lost", (("wait", 7, 2),)),
     "  try\n    wait 1\n  but lost\n    wait 2\n  end\n",
     ("try", 2, (("wait", 3, 1),), "lost", (("wait", 5, 2),))),
    (("try", 7, (("wait", 7, 1),), "any", ()),
     "  try\n    wait 1\n  but any\n  end\n",
     ("try", 2, (("wait", 3, 1),), "any", ())),
    (("do", 7, (("wait", 7, 1),), (("wait", 7, 2),)),
     "  do\n    wait 1\n  last\n    wait 2\n  end\n",
     ("do", 2, (("wait", 3, 1),), (("wait", 5, 2),))),
    (("do", 7, (), (("wait", 7, 2),)),
     "  do\n  last\n    wait 2\n  end\n",
     ("do", 2, (), (("wait", 4, 2),))),
    (("when", 7, "x", ":y", (("wait", 7, 1),)),
     "  when x :y\n    wait 1\n  end\n",
     ("when", 2, "x", ":y", (("wait", 3, 1),))),
    (("repeat", 7, 3, (("wait", 7, 1),)),
     "  repeat 3\n    wait 1\n  end\n",
     ("repeat", 2, 3, (("wait", 3, 1),))),
)

WHOLE = """errand run
  do
    group all
      limit 12
        take post x
      end
      keep
        when x :go
          repeat 2
            ring gate
          end
        end
      end
    end
  last
    send post 0
  end
  give x
end
errand idle
end
errand main
  try
    limit 3
    late
      wait 1
    end
  but any
    raise lost
  end
  wait 2
end
"""


def in_errand(rows):
    return (("errand", 1, "main", tuple(rows)),)


def with_line(fields, line):
    return (fields[0], line) + fields[1:]


def lines_changed(rows, change):
    """The same rows, deep down, each with the line that change tells of its own."""
    told = []
    for row in rows:
        fields = [lines_changed(field, change) if isinstance(field, tuple) else field for field in row]
        fields[1] = change(row[1])
        told.append(tuple(fields))
    return tuple(told)


class LineTests(unittest.TestCase):
    def test_rows_that_are_no_blocks(self):
        for fields, line in PLAIN:
            with self.subTest(line=line):
                program = in_errand([with_line(fields, 50)])
                self.assertEqual(written(program), "errand main\n  " + line + "\nend\n")
                self.assertEqual(numbered(program), in_errand([with_line(fields, 2)]))

    def test_blocks_with_no_rows(self):
        for fields, lines in EMPTY:
            with self.subTest(fields=fields):
                program = in_errand([with_line(fields, 50)])
                told = "".join(["  " + line + "\n" for line in lines])
                self.assertEqual(written(program), "errand main\n" + told + "end\n")
                self.assertEqual(numbered(program), in_errand([with_line(fields, 2)]))

    def test_blocks_with_rows(self):
        for row, text, told in FILLED:
            with self.subTest(row=row):
                self.assertEqual(written(in_errand([row])), "errand main\n" + text + "end\n")
                self.assertEqual(numbered(in_errand([row])), in_errand([told]))

    def test_rows_behind_one_another(self):
        program = in_errand([with_line(fields, 1) for fields, line in PLAIN])
        text = "errand main\n" + "".join(["  " + line + "\n" for fields, line in PLAIN]) + "end\n"
        self.assertEqual(written(program), text)
        told = in_errand([with_line(fields, place) for place, (fields, line) in enumerate(PLAIN, start=2)])
        self.assertEqual(numbered(program), told)

    def test_a_row_behind_each_block(self):
        for row, text, told in FILLED:
            with self.subTest(row=row):
                program = in_errand([row, ("wait", 1, 9)])
                self.assertEqual(written(program), "errand main\n" + text + "  wait 9\nend\n")
                behind = ("wait", 2 + text.count("\n"), 9)
                self.assertEqual(numbered(program), in_errand([told, behind]))

    def test_each_block_in_each_other_one(self):
        for outer, text, told in FILLED:
            for inner, inner_text, inner_told in FILLED:
                with self.subTest(outer=outer, inner=inner):
                    program = in_errand([put_first(outer, inner)])
                    self.assertEqual(read(written(program)), numbered(program))
                    head, behind = parted(text, outer)
                    lines = ["  " + line for line in inner_text.split("\n")[:-1]]
                    middle = "".join([line + "\n" for line in lines])
                    self.assertEqual(written(program), "errand main\n" + head + middle + behind + "end\n")

    def test_errands(self):
        program = (("errand", 9, "a", ()), ("errand", 9, "abcdefgh", (("wait", 3, 4),)), ("errand", 2, "a", ()))
        self.assertEqual(written(program), "errand a\nend\nerrand abcdefgh\n  wait 4\nend\nerrand a\nend\n")
        told = (("errand", 1, "a", ()), ("errand", 3, "abcdefgh", (("wait", 4, 4),)), ("errand", 6, "a", ()))
        self.assertEqual(numbered(program), told)

    def test_one_errand_without_rows(self):
        self.assertEqual(written((("errand", 5, "x", ()),)), "errand x\nend\n")
        self.assertEqual(numbered((("errand", 5, "x", ()),)), (("errand", 1, "x", ()),))

    def test_a_whole_text_is_written_as_it_was(self):
        self.assertEqual(written(read(WHOLE)), WHOLE)
        self.assertEqual(numbered(read(WHOLE)), read(WHOLE))

    def test_deep_blocks(self):
        for deep in (1, 2, 19, 20):
            row = ("wait", 1, 3)
            for place in range(deep):
                row = ("keep", 1, (row,))
            with self.subTest(deep=deep):
                heads = ["  " * place + "keep" for place in range(1, deep + 1)]
                ends = ["  " * place + "end" for place in range(deep, 0, -1)]
                lines = ["errand main"] + heads + ["  " * (deep + 1) + "wait 3"] + ends + ["end", ""]
                self.assertEqual(written(in_errand([row])), "\n".join(lines))
                self.assertEqual(read(written(in_errand([row]))), numbered(in_errand([row])))

    def test_great_lines_are_not_written(self):
        program = (("errand", 99999, "a", (("keep", 70000, (("wait", 1, 1),)),)),)
        self.assertEqual(written(program), "errand a\n  keep\n    wait 1\n  end\nend\n")
        self.assertEqual(numbered(program), (("errand", 1, "a", (("keep", 2, (("wait", 3, 1),)),)),))


def put_first(outer, inner):
    """The outer block with the inner one as the first of its own rows."""
    fields = list(outer)
    for place in range(2, len(fields)):
        if isinstance(fields[place], tuple):
            fields[place] = (inner,) + fields[place]
            return tuple(fields)


def parted(text, outer):
    """The text of a block in an errand, parted behind its first line."""
    head, behind = text.split("\n", 1)
    return head + "\n", behind


class AgainTests(unittest.TestCase):
    program = (
        ("errand", 40, "a", (("try", 3, (("raise", 1, "b"),), "b", (("limit", 8, 4, (), (("wait", 8, 1),)),)),)),
        ("errand", 2, "b", (("do", 5, (), (("ring", 5, "z"),)), ("give", 6, ":x"))),
    )

    def test_the_program_stays_and_the_same_is_told_again(self):
        first, text, lines = repr(self.program), written(self.program), numbered(self.program)
        written((("errand", 1, "other", (("wait", 2, 2),)),))
        numbered((("errand", 1, "other", (("wait", 2, 2),)),))
        self.assertEqual(written(self.program), text)
        self.assertEqual(numbered(self.program), lines)
        numbered(self.program)
        self.assertEqual(written(self.program), text)
        self.assertEqual(repr(self.program), first)

    def test_what_is_told_is_of_the_told_kinds(self):
        self.assertIs(type(written(self.program)), str)
        self.assertIs(type(numbered(self.program)), tuple)
        for errand in numbered(self.program):
            self.assertIs(type(errand), tuple)
            self.assertIs(type(errand[3]), tuple)


# Programs made by a fixed row of chances, with any lines, and beside them the text that they are to be written as.
class Maker:
    def __init__(self, seed):
        self.chance = random.Random(seed)

    def plain(self):
        chance = self.chance
        name = lambda: chance.choice(NAMES)
        value = lambda: chance.choice(VALUES)
        number = chance.choice((1, 9, 10, 99))
        group, within = name(), chance.choice((0, 1, 30, 99))
        label, errand = name(), name()
        begin = f"begin {label} {errand} in {group}" + (f" within {within}" if within else "")
        row = chance.choice((
            ("wait", number), ("hear", name()), ("ring", name()), ("send", name(), value()), ("take", name(), name()),
            ("let", name(), value()), ("raise", name()), ("begin", label, errand, group, within),
            ("ask", name(), name()), ("off", name()), ("give", value()),
        ))
        return row, begin if row[0] == "begin" else " ".join([str(word) for word in row])

    def rows(self, ahead, deep, least=0):
        told, lines = [], []
        for place in range(self.chance.randint(least, 3)):
            if deep < 20 and self.chance.randint(0, 2) == 0:
                row, more = self.block(ahead, deep + 1)
                lines.extend(more)
            else:
                row, line = self.plain()
                lines.append(ahead + line)
            told.append(with_line(row, self.chance.randint(1, 500)))
        return tuple(told), lines

    def block(self, ahead, deep):
        chance = self.chance
        kind = chance.choice(("group", "limit", "keep", "try", "do", "when", "repeat"))
        own = {"group": (chance.choice(NAMES),), "limit": (chance.choice((1, 9, 10, 99)),),
               "repeat": (chance.randint(1, 9),), "when": (chance.choice(NAMES), chance.choice(VALUES))}.get(kind, ())
        rows, lines = self.rows(ahead + "  ", deep)
        head = [ahead + " ".join([str(word) for word in (kind,) + own])]
        row, lines = (kind,) + own + (rows,), head + lines
        if kind == "limit":
            others, more = self.rows(ahead + "  ", deep)
            row, lines = row + (others,), lines + ([ahead + "late"] if others else []) + more
        if kind == "try":
            fault = chance.choice(("any",) + NAMES)
            others, more = self.rows(ahead + "  ", deep)
            row, lines = row + (fault, others), lines + [ahead + "but " + fault] + more
        if kind == "do":
            others, more = self.rows(ahead + "  ", deep)
            row, lines = row + (others,), lines + [ahead + "last"] + more
        return row, lines + [ahead + "end"]

    def program(self):
        told, lines = [], []
        for place in range(self.chance.randint(1, 3)):
            name = self.chance.choice(NAMES)
            rows, more = self.rows("  ", 0)
            told.append(("errand", self.chance.randint(1, 500), name, rows))
            lines = lines + ["errand " + name] + more + ["end"]
        return tuple(told), "".join([line + "\n" for line in lines])


class MadeTests(unittest.TestCase):
    def test_made_programs(self):
        maker = Maker(16)
        for number in range(250):
            program, text = maker.program()
            before = repr(program)
            with self.subTest(number=number):
                self.assertEqual(written(program), text)
                told = numbered(program)
                self.assertEqual(read(text), told)
                self.assertEqual(written(told), text)
                self.assertEqual(numbered(told), told)
                self.assertEqual(lines_changed(told, lambda line: 1), lines_changed(program, lambda line: 1))
                self.assertEqual(repr(program), before)

    def test_a_text_without_lines_of_blanks_read_written_and_read_again(self):
        maker = Maker(17)
        for number in range(150):
            program, text = maker.program()
            loose = "\n".join(["   " + line.replace(" ", "  ") + " " for line in text.split("\n")[:-1]])
            with self.subTest(number=number):
                first = read(loose)
                self.assertEqual(read(written(first)), first)
                self.assertEqual(numbered(first), first)

    def test_a_text_with_lines_of_blanks(self):
        text = "\nerrand a\n\n keep\n  \n wait 1\n\n end\n\nend\n"
        first = read(text)
        self.assertEqual(written(first), "errand a\n  keep\n    wait 1\n  end\nend\n")
        self.assertEqual(numbered(first), (("errand", 1, "a", (("keep", 2, (("wait", 3, 1),)),)),))
        self.assertNotEqual(numbered(first), first)


if __name__ == "__main__":
    unittest.main()
