"""What a program weighs, and how many errands it begins [2.2]."""

import random
import unittest

from nightwatch.reader import read
from nightwatch.weights import begun, weight

# Each row that is no block and no begin.
PLAIN = ("wait 9", "hear a", "ring a", "send a 5", "take a b", "let a 7", "raise a", "ask a b", "off a", "give 8")


def errand(lines, name="main"):
    return "\n".join(["errand " + name] + lines + ["end"]) + "\n"


class RowTests(unittest.TestCase):
    def check(self, lines, heavy, many, ahead=""):
        with self.subTest(lines=lines, ahead=ahead):
            program = read(ahead + errand(lines))
            self.assertEqual(weight(program), heavy)
            self.assertEqual(begun(program), many)

    def test_no_rows(self):
        self.check([], 1, 0)

    def test_each_plain_row_weighs_one(self):
        for line in PLAIN:
            self.check([line], 2, 0)
            self.check([line, line, line], 4, 0)
        self.check(list(PLAIN), 1 + len(PLAIN), 0)

    def test_blocks_with_no_rows_weigh_one(self):
        for lines in (["group a"], ["limit 9"], ["keep"], ["try", "but any"], ["do", "last"], ["when a 5"],
                      ["repeat 1"], ["repeat 9"]):
            self.check(lines + ["end"], 2, 0)

    def test_blocks_weigh_one_and_all_that_stands_in_them(self):
        for lines in (["group a"], ["limit 9"], ["keep"], ["when a 5"], ["repeat 1"]):
            self.check(lines + ["wait 1", "wait 1", "end"], 4, 0)
        for first, turn in (("limit 9", "late"), ("try", "but any"), ("try", "but a"), ("do", "last")):
            self.check([first, "wait 1", turn, "wait 1", "wait 1", "end"], 5, 0)
            self.check([first, turn, "wait 1", "wait 1", "end"], 4, 0)
        for first, turn in (("try", "but any"), ("do", "last")):
            self.check([first, "wait 1", "wait 1", "wait 1", turn, "end"], 5, 0)

    def test_a_repeat_counts_its_rows_as_often_as_told_and_itself_once(self):
        for many in range(1, 10):
            self.check([f"repeat {many}", "wait 50", "ring a", "end"], 2 + 2 * many, 0)

    def test_repeats_within_repeats(self):
        self.check(["repeat 3", "repeat 4", "wait 1", "end", "end"], 1 + 1 + 3 * (1 + 4), 0)
        self.check(["repeat 9", "repeat 9", "repeat 9", "end", "end", "end"], 1 + 1 + 9 * (1 + 9 * 1), 0)
        self.check(["repeat 2", "wait 1", "repeat 3", "ring a", "keep", "wait 1", "end", "end", "end", "wait 1"],
                   1 + 1 + 2 * (1 + 1 + 3 * (1 + 1 + 1)) + 1, 0)

    def test_numbers_of_other_rows_count_for_nothing(self):
        self.check(["limit 9", "wait 9", "end"], 3, 0)
        self.check(["when a 9", "wait 9", "end"], 3, 0)

    def test_great_weights(self):
        lines = ["repeat 9"] * 8 + ["wait 1"] + ["end"] * 8
        heavy = 1
        for place in range(8):
            heavy = 1 + 9 * heavy
        self.check(lines, 1 + heavy, 0)


class BeginTests(unittest.TestCase):
    def check(self, text, heavy, many):
        with self.subTest(text=text):
            program = read(text)
            self.assertEqual((weight(program), begun(program)), (heavy, many))
            self.assertEqual((begun(program), weight(program)), (many, heavy))
            self.assertEqual((begun(program), begun(program)), (many, many))

    def test_a_begin_weighs_one_and_its_errand(self):
        run = errand(["wait 1", "wait 2"], "run")
        self.check(run + errand(["group g", "begin a run in g", "end"]), 1 + 1 + (1 + 3), 1)
        self.check(run + errand(["group g", "begin a run in g within 99", "end"]), 1 + 1 + (1 + 3), 1)
        self.check(run + errand(["group g", "begin a run in g", "begin a run in g", "end"]), 2 + 2 * 4, 2)
        self.check(errand([], "run") + errand(["group g", "begin a run in g", "end"]), 1 + 1 + (1 + 1), 1)

    def test_begins_of_errands_that_begin_others(self):
        a = errand(["wait 1"], "a")
        b = errand(["group g", "begin x a in g", "begin y a in g", "end"], "b")
        c = errand(["group g", "begin x a in g", "begin y b in g", "end", "wait 1"], "c")
        self.check(a, 2, 0)
        self.check(a + b, 1 + 1 + 2 * (1 + 2), 2)
        self.check(a + b + c, 1 + 1 + (1 + 2) + (1 + 8) + 1, 1 + 1 + 2)

    def test_begins_in_repeats_and_in_every_part(self):
        a = errand(["wait 1"], "a")
        self.check(a + errand(["repeat 5", "group g", "begin x a in g", "end", "end"]), 1 + 1 + 5 * (1 + 3), 5)
        self.check(a + errand(["group g", "repeat 2", "repeat 3", "begin x a in g", "end", "end", "end"]),
                   1 + 1 + 1 + 2 * (1 + 3 * 3), 6)
        begin = "begin x a in g"
        self.check(a + errand(["group g", "limit 5", begin, "late", begin, "end", "end"]), 1 + 1 + 1 + 3 + 3, 2)
        self.check(a + errand(["group g", "try", begin, "but any", begin, begin, "end", "end"]), 3 + 9, 3)
        self.check(a + errand(["group g", "do", begin, "last", begin, "end", "end"]), 3 + 6, 2)
        self.check(a + errand(["group g", "keep", begin, "end", "when x 0", begin, "end", "end"]), 4 + 6, 2)

    def test_an_errand_that_begins_in_a_repeat_begun_in_a_repeat(self):
        a = errand([], "a")
        b = errand(["group g", "repeat 3", "begin x a in g", "end", "end"], "b")
        main = errand(["group g", "repeat 2", "begin x b in g", "wait 1", "end", "end"])
        self.check(a + b, 1 + 1 + 1 + 3 * 2, 3)
        self.check(a + b + main, 1 + 1 + 1 + 2 * (1 + 9 + 1), 2 * (1 + 3))

    def test_it_is_that_of_the_last_errand(self):
        a = errand(["wait 1"] * 5, "a")
        self.check(a, 6, 0)
        self.check(a + errand([], "b"), 1, 0)
        self.check(a + errand(["group g", "begin x a in g", "end"], "b") + errand(["wait 1"], "c"), 2, 0)

    def test_a_program_without_its_last_errand(self):
        text = errand(["wait 1"], "a") + errand(["group g", "begin x a in g", "end"], "b") + errand([], "c")
        program = read(text)
        self.assertEqual((weight(program[:1]), begun(program[:1])), (2, 0))
        self.assertEqual((weight(program[:2]), begun(program[:2])), (5, 1))
        self.assertEqual((weight(program), begun(program)), (1, 0))

    def test_an_errand_of_the_name_of_a_label_or_a_group(self):
        a = errand(["wait 1", "wait 1"], "a")
        b = errand([], "b")
        self.check(a + b + errand(["group a", "begin b a in a", "end"]), 1 + 1 + 4, 1)

    def test_the_same_behind_another_program(self):
        first = read(errand(["wait 1"] * 7, "a") + errand(["group g", "begin x a in g", "end"]))
        other = read(errand([], "a") + errand(["group g", "begin x a in g", "end"]))
        before = repr(first)
        self.assertEqual((weight(first), begun(first)), (11, 1))
        self.assertEqual((weight(other), begun(other)), (4, 1))
        self.assertEqual((weight(first), begun(first)), (11, 1))
        self.assertEqual(repr(first), before)


# Another way to the same numbers: all rows are laid out one behind the other, as often as they could be done.
def laid_out(rows, ahead):
    told = []
    for row in rows:
        told.append(row[0])
        for place in range(row[2] if row[0] == "repeat" else 1):
            for field in row:
                if isinstance(field, tuple):
                    told.extend(laid_out(field, ahead))
        if row[0] == "begin":
            told.append("errand")
            told.extend(laid_out(ahead[row[3]], ahead))
    return told


class MadeTests(unittest.TestCase):
    def rows(self, chance, names, deep):
        lines = []
        for place in range(chance.randint(0, 3)):
            kind = chance.randint(0, 9) if deep < 3 else chance.randint(6, 9)
            if kind < 4:
                head = chance.choice(("keep", "limit 5", "group k", "when x 0"))
                lines += [head] + self.rows(chance, names, deep + 1) + ["end"]
            elif kind < 5:
                lines += [f"repeat {chance.randint(1, 3)}"] + self.rows(chance, names, deep + 1) + ["end"]
            elif kind < 6:
                head, turn = chance.choice((("try", "but any"), ("do", "last")))
                lines += [head] + self.rows(chance, names, deep + 1) + [turn]
                lines += self.rows(chance, names, deep + 1) + ["end"]
            elif names and kind < 8:
                lines += [f"begin x {chance.choice(names)} in g"]
            else:
                lines += [chance.choice(PLAIN)]
        return lines

    def test_made_programs(self):
        chance = random.Random(22)
        for number in range(150):
            names, text = [], ""
            for name in ("a", "b", "c", "d")[:chance.randint(1, 4)]:
                text += errand(self.rows(chance, names, 0), name)
                names.append(name)
            program = read(text)
            laid = laid_out(program[-1][3], {one[2]: one[3] for one in program})
            with self.subTest(number=number):
                self.assertEqual(weight(program), 1 + len(laid))
                self.assertEqual(begun(program), laid.count("errand"))


if __name__ == "__main__":
    unittest.main()
