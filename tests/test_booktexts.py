"""Night books as texts [8.1], [8.2]."""

import random
import re
import unittest

from nightwatch.booktexts import booktext, deed_text, outcome_text, read_book, row_text
from nightwatch.errors import BadBook, WatchError

KEY_WORDS = (
    "any ask begin but do end errand give group hear in keep last late let limit off raise repeat ring send "
    "take try wait when within"
).split()

# Each form of an errand's deed, and how it is written.
ERRAND_DEEDS = (
    (("did", 3), "did 3"),
    (("clean", 0), "clean 0"),
    (("clean", 99999), "clean 99999"),
    (("ring", 3, "gate"), "ring 3 gate"),
    (("hear", 12, "abcdefgh"), "hear 12 abcdefgh"),
    (("send", 3, "post", 0), "send 3 post 0"),
    (("send", 3, "post", 999999), "send 3 post 999999"),
    (("send", 3, "post", ":late"), "send 3 post :late"),
    (("send", 3, "post", ":abcdefgh"), "send 3 post :abcdefgh"),
    (("raise", 3, "lost"), "raise 3 lost"),
    (("begin", 3, "one", "run", 1, 0), "begin 3 one run 1 0"),
    (("begin", 3, "one", "run", 999, 99), "begin 3 one run 999 99"),
    (("off", 3, 0), "off 3 0"),
    (("off", 3, 999), "off 3 999"),
    (("off", 3, "one"), "off 3 one"),
    (("group", 3, 1), "group 3 1"),
    (("join", 3, 2), "join 3 2"),
    (("left", 3, 0), "left 3 0"),
    (("late", 3, 999), "late 3 999"),
    (("limit", 3, 4, 1), "limit 3 4 1"),
    (("limit", 3, 4, 99), "limit 3 4 99"),
    (("wait", 3, 1), "wait 3 1"),
    (("wait", 3, 99), "wait 3 99"),
    (("take", 3, "post", "x"), "take 3 post x"),
    (("ask", 3, "one", "x"), "ask 3 one x"),
    (("halt", 3, 1, ()), "halt 3 1 -"),
    (("halt", 3, 1, ("lost",)), "halt 3 1 lost"),
    (("halt", 3, 1, ("lost", "torn", "lost")), "halt 3 1 lost,torn,lost"),
    (("caught", 3, ("lost",)), "caught 3 lost"),
    (("caught", 3, ("lost", "abcdefgh")), "caught 3 lost,abcdefgh"),
    (("ended", 0, ("value", 0)), "ended 0 value 0"),
    (("ended", 0, ("value", 999999)), "ended 0 value 999999"),
    (("ended", 0, ("value", ":off")), "ended 0 value :off"),
    (("ended", 0, ("faults", ("lost",))), "ended 0 faults lost"),
    (("ended", 0, ("faults", ("lost", "torn"))), "ended 0 faults lost,torn"),
    (("ended", 0, ("off",)), "ended 0 off"),
    (("ended", 0, ("late",)), "ended 0 late"),
    (("ended", 7, ("late",)), "ended 7 late"),
)
CLOCK_DEEDS = (
    (("woke", 0), "woke 0"), (("woke", 99), "woke 99"), (("late", 0, 0), "late 0 0"), (("late", 99, 999), "late 99 999"),
)
OUTSIDE_DEEDS = (
    (("ring", "gate"), "ring gate"), (("send", "post", 7), "send post 7"), (("send", "post", ":off"), "send post :off"),
    (("off", 0), "off 0"), (("off", 9999), "off 9999"),
)
# Who's with their deeds.
ALL_DEEDS = tuple([(who, deed, text) for who, deeds in ((0, ERRAND_DEEDS), (99, ERRAND_DEEDS[:3]), ("clock", CLOCK_DEEDS),
                                                       ("outside", OUTSIDE_DEEDS)) for deed, text in deeds])
MARKS = (
    ((), "-"), (((2, 1, "off"),), "2 1 off"), (((0, 0, "late"),), "0 0 late"), (((99, 999, "off"),), "99 999 off"),
    (((2, 1, "off"), (3, 0, "off"), (2, 7, "late")), "2 1 off 3 0 off 2 7 late"),
)
WOKEN = (((), "-"), ((0,), "0"), ((99,), "99"), ((3, 1, 2), "3 1 2"), ((1, 1), "1 1"))


class WrittenTests(unittest.TestCase):
    def test_the_two_rows_of_the_document(self):
        one = (7, 2, ("halt", 14, 1, ("lost", "torn")), ((2, 1, "off"), (3, 0, "off")), (3,))
        two = (0, "outside", ("ring", "gate"), (), ())
        self.assertEqual(row_text(one), "7 2 halt 14 1 lost,torn / 2 1 off 3 0 off / 3")
        self.assertEqual(row_text(two), "0 outside ring gate / - / -")
        text = "7 2 halt 14 1 lost,torn / 2 1 off 3 0 off / 3\n0 outside ring gate / - / -\n"
        self.assertEqual(booktext((one, two)), text)
        self.assertEqual(booktext([one, two]), text)
        self.assertEqual(read_book(text), (one, two))

    def test_each_deed(self):
        for who, deed, text in ALL_DEEDS:
            with self.subTest(text=text):
                self.assertEqual(deed_text(deed), text)
                row = (5, who, deed, (), ())
                line = f"5 {who} {text} / - / -"
                self.assertEqual(row_text(row), line)
                self.assertEqual(booktext([row]), line + "\n")
                self.assertEqual(read_book(line + "\n"), (row,))

    def test_each_mark_and_woken_one(self):
        for marks, marks_text in MARKS:
            for woken, woken_text in WOKEN:
                row = (99999, 3, ("did", 1), marks, woken)
                line = f"99999 3 did 1 / {marks_text} / {woken_text}"
                with self.subTest(line=line):
                    self.assertEqual(row_text(row), line)
                    self.assertEqual(read_book(line + "\n"), (row,))

    def test_wants_and_outcomes(self):
        self.assertEqual(deed_text(("hear", 3, "gate")), "hear 3 gate")
        self.assertEqual(deed_text(("join", 3, 1)), "join 3 1")
        self.assertEqual(deed_text(("halt", 3, 1, ())), "halt 3 1 -")
        for outcome, text in ((("value", 0), "value 0"), (("value", ":x"), "value :x"), (("faults", ("a",)), "faults a"),
                              (("faults", ("a", "b")), "faults a,b"), (("off",), "off"), (("late",), "late")):
            self.assertEqual(outcome_text(outcome), text)

    def test_no_rows(self):
        self.assertEqual((booktext(()), booktext([])), ("", ""))
        self.assertEqual(read_book(""), ())

    def test_kinds_of_what_is_read(self):
        rows = read_book("7 2 halt 14 1 lost,torn / 2 1 off / 3\n1 3 ended 0 faults lost / - / -\n")
        for thing in (rows, rows[0], rows[0][2], rows[0][2][3], rows[0][3], rows[0][3][0], rows[0][4], rows[1][2][2],
                      rows[1][2][2][1], rows[1][3], rows[1][4]):
            self.assertIs(type(thing), tuple)
        self.assertIs(type(rows[0][0]), int)
        self.assertIs(type(rows[0][1]), int)

    def test_rows_that_are_written_stay(self):
        rows = [(0, 0, ("did", 1), (), ()), (0, 0, ("did", 2), ((0, 0, "off"),), (1,))]
        before = repr(rows)
        first = booktext(rows)
        self.assertEqual((booktext(rows), repr(rows)), (first, before))


class RefusedTests(unittest.TestCase):
    right = "0 0 did 1 / - / -"

    def refused(self, text, place):
        with self.subTest(text=text):
            with self.assertRaises(BadBook) as caught:
                read_book(text)
            self.assertEqual(caught.exception.place, place)
            self.assertIsInstance(caught.exception, WatchError)

    def wrong(self, line):
        """A line that is none: alone, ahead of and behind right ones, and ahead of another wrong one."""
        self.refused(line + "\n", 0)
        self.refused(line, 0)
        self.refused(self.right + "\n" + line + "\n", 1)
        self.refused(line + "\n" + self.right + "\n", 0)
        self.refused(self.right + "\n" + self.right + "\n" + line + "\n" + line + "\n", 2)
        self.refused(line + "\n" + self.right, 0)

    def test_the_last_line_end_gone(self):
        self.refused(self.right, 0)
        self.refused(self.right + "\n" + self.right, 1)
        self.refused(self.right + "\n" + self.right + "\nx", 2)
        self.refused(self.right + "\n ", 1)
        self.assertEqual(len(read_book(self.right + "\n" + self.right + "\n")), 2)

    def test_empty_lines(self):
        self.refused("\n", 0)
        self.refused("\n\n", 0)
        self.refused("\n" + self.right + "\n", 0)
        self.refused(self.right + "\n\n", 1)
        self.refused(self.right + "\n\n" + self.right + "\n", 1)

    def test_blanks_and_tabs(self):
        for who, deed, text in ALL_DEEDS[::5]:
            line = f"5 {who} {text} / 2 1 off / 3"
            for place in [place for place, sign in enumerate(line) if sign == " "]:
                self.wrong(line[:place] + " " + line[place:])
                self.wrong(line[:place] + "\t" + line[place + 1:])
                self.wrong(line[:place] + line[place + 1:])
            for other in (" " + line, line + " ", "\t" + line, line + "\t", line + "\r"):
                self.wrong(other)

    def test_words_too_few_and_too_many(self):
        for who, deed, text in ALL_DEEDS:
            words = text.split(" ")
            for place in range(len(words)):
                shorter = " ".join(words[:place] + words[place + 1:])
                self.wrong(f"5 {who} {shorter} / - / -".replace("  ", " "))
            for word in ("3", "x", "-", ":x", "off", "lost,torn"):
                self.wrong(f"5 {who} {text} {word} / - / -")

    def test_strokes(self):
        for line in ("0 0 did 1 - / -", "0 0 did 1 / - -", "0 0 did 1 - -", "0 0 did 1 / - / - / -", "0 0 did 1 / / -",
                     "0 0 did 1 / - /", "0 0 did 1 / /", "0 0 did 1 // - / -", "/ 0 0 did 1 / - / -", "/ - / -", "/ / -",
                     "0 / - / -", "0 0 / - / -", "0 0 did / 1 / - / -", "0 0 did 1 / -", "0 0 did 1 /", "0 0 did 1", "/",
                     "0 0 did 1 | - | -", "/ /", "/ / /"):
            self.wrong(line)

    def test_hyphens(self):
        for line in ("0 0 did 1 / - - / -", "0 0 did 1 / - / - -", "0 0 did 1 / 1 0 off - / -", "0 0 did 1 / - / 1 -",
                     "0 0 did 1 / - 1 0 off / -", "0 0 did 1 / - / - 1", "0 0 did 1 / -- / -", "0 0 did 1 / - / --",
                     "0 0 caught 1 - / - / -", "0 0 ended 0 faults - / - / -", "0 0 halt 3 1 -,lost / - / -",
                     "- 0 did 1 / - / -", "0 - did 1 / - / -", "0 0 did - / - / -", "0 0 halt 3 - - / - / -"):
            self.wrong(line)

    def test_bounds(self):
        forms = (
            ("{} 0 did 1 / - / -", 0, 99999), ("0 {} did 1 / - / -", 0, 99), ("0 0 did {} / - / -", 0, 99999),
            ("0 0 clean {} / - / -", 0, 99999), ("0 0 ring {} gate / - / -", 0, 99999),
            ("0 0 hear {} gate / - / -", 0, 99999), ("0 0 send {} post 1 / - / -", 0, 99999),
            ("0 0 send 1 post {} / - / -", 0, 999999), ("0 0 raise {} lost / - / -", 0, 99999),
            ("0 0 begin {} one run 1 0 / - / -", 0, 99999), ("0 0 begin 1 one run {} 0 / - / -", 0, 999),
            ("0 0 begin 1 one run 1 {} / - / -", 0, 99), ("0 0 off {} 1 / - / -", 0, 99999),
            ("0 0 off {} one / - / -", 0, 99999), ("0 0 off 1 {} / - / -", 0, 999),
            ("0 0 group {} 1 / - / -", 0, 99999), ("0 0 group 1 {} / - / -", 0, 999),
            ("0 0 join {} 1 / - / -", 0, 99999), ("0 0 join 1 {} / - / -", 0, 999),
            ("0 0 left {} 1 / - / -", 0, 99999), ("0 0 left 1 {} / - / -", 0, 999),
            ("0 0 late {} 1 / - / -", 0, 99999), ("0 0 late 1 {} / - / -", 0, 999),
            ("0 0 limit {} 1 1 / - / -", 0, 99999), ("0 0 limit 1 {} 1 / - / -", 0, 999),
            ("0 0 limit 1 1 {} / - / -", 1, 99), ("0 0 wait {} 1 / - / -", 0, 99999), ("0 0 wait 1 {} / - / -", 1, 99),
            ("0 0 take {} a b / - / -", 0, 99999), ("0 0 ask {} a b / - / -", 0, 99999),
            ("0 0 halt {} 1 - / - / -", 0, 99999), ("0 0 halt 1 {} - / - / -", 0, 999),
            ("0 0 caught {} lost / - / -", 0, 99999), ("0 0 ended {} off / - / -", 0, 99999),
            ("0 0 ended 0 value {} / - / -", 0, 999999), ("0 clock woke {} / - / -", 0, 99),
            ("0 clock late {} 1 / - / -", 0, 99), ("0 clock late 1 {} / - / -", 0, 999),
            ("0 outside off {} / - / -", 0, 9999), ("0 outside send post {} / - / -", 0, 999999),
            ("0 0 did 1 / {} 0 off / -", 0, 99), ("0 0 did 1 / 0 {} late / -", 0, 999), ("0 0 did 1 / - / {}", 0, 99),
            ("0 0 did 1 / - / 1 {}", 0, 99), ("0 0 did 1 / 1 1 off {} 0 off / -", 0, 99),
        )
        for form, least, greatest in forms:
            for number in (least, least + 1, greatest - 1, greatest):
                line = form.replace("{}", str(number)) + "\n"
                with self.subTest(line=line):
                    self.assertEqual(booktext(read_book(line)), line)
            wrong = [str(greatest + 1), "0" + str(greatest), "00", "01", "-1", "-0", "+1", "1.0", "1_0", "", "x1", "1x",
                     str(greatest) + "0", "9" * 30, "True", "None"]
            for word in wrong + (["0"] if least else []):
                self.refused(form.replace("{}", word) + "\n", 0)

    def test_names(self):
        forms = ("0 0 ring 1 {}", "0 0 hear 1 {}", "0 0 send 1 {} 5", "0 0 raise 1 {}", "0 0 begin 1 {} run 1 0",
                 "0 0 begin 1 one {} 1 0", "0 0 off 1 {}", "0 0 take 1 {} x", "0 0 take 1 post {}", "0 0 ask 1 {} x",
                 "0 0 ask 1 one {}", "0 0 halt 1 1 {}", "0 0 halt 1 1 lost,{}", "0 0 halt 1 1 {},lost", "0 0 caught 1 {}",
                 "0 0 caught 1 lost,{},lost", "0 0 ended 0 faults {}", "0 0 ended 0 faults {},lost", "0 outside ring {}",
                 "0 outside send {} 5")
        for form in forms:
            for name in ("a", "abcdefgh", "ende", "anyx"):
                line = form.replace("{}", name) + " / - / -\n"
                with self.subTest(line=line):
                    self.assertEqual(booktext(read_book(line)), line)
            wrong = KEY_WORDS + ["abcdefghi", "A", "Gate", "a1", ":a", "", "a,", ",a", "a,,b", "a-b", "a_b", "clock x"]
            for name in wrong + ([] if "halt" in form or "caught" in form or "faults" in form else ["a,b"]):
                self.refused(form.replace("{}", name) + " / - / -\n", 0)

    def test_values(self):
        for form in ("0 0 send 1 post {}", "0 0 ended 0 value {}", "0 outside send post {}"):
            for word in (":" + KEY_WORDS[0], ":a", ":abcdefgh", "5"):
                line = form.replace("{}", word) + " / - / -\n"
                self.assertEqual(booktext(read_book(line)), line)
            for word in ("x", "gate", ":", "::a", ":abcdefghi", ":A", ":1", ":a,b", "late", "-"):
                self.refused(form.replace("{}", word) + " / - / -\n", 0)

    def test_who(self):
        for who in ("Clock", "clocks", "outsider", "inside", "main", "x", "-", ":clock", "clock,outside"):
            self.wrong(f"0 {who} did 1 / - / -")
            self.wrong(f"0 {who} ring gate / - / -")
            self.wrong(f"0 {who} woke 1 / - / -")

    def test_deeds_of_others(self):
        for deed, text in ERRAND_DEEDS:
            if deed[0] != "late":
                self.wrong(f"0 clock {text} / - / -")
            self.wrong(f"0 outside {text} / - / -")
        for deed, text in CLOCK_DEEDS:
            self.wrong(f"0 outside {text} / - / -")
        self.wrong("0 3 woke 1 / - / -")
        for deed, text in OUTSIDE_DEEDS:
            self.wrong(f"0 clock {text} / - / -")
            self.wrong(f"0 3 {text} / - / -")

    def test_words_of_deeds_and_outcomes(self):
        for text in ("do 1", "let 1", "give 1", "when 1", "keep 1", "woken 1", "end 0 off", "Did 1", "did", "errand 1",
                     "ended 0 value", "ended 0 faults", "ended 0", "ended", "ended 0 none", "ended 0 ended",
                     "ended 0 value 1 2", "ended 0 off 1", "ended 0 off late", "ended 0 0", "ended value 1",
                     "ended 0 faults lost torn", "ended 0 lost", "ended 0 late 1"):
            self.wrong(f"0 0 {text} / - / -")

    def test_marks(self):
        for text in ("1 0", "1", "off", "1 0 off 2", "1 0 off 2 0", "1 0 on", "1 0 Off", "1 off 0", "off 1 0", "1 0 off,",
                     "1 0 off late", "1 0 0", "1 0 lates", "clock 0 off", "1 x off", "1 0 off / 2 0 off"):
            self.wrong(f"0 0 did 1 / {text} / -")

    def test_woken_ones(self):
        for text in ("x", "1,2", "1 x", "clock", "outside", "1 2 off", "1 0 off", "-1", "1 - 2"):
            self.wrong(f"0 0 did 1 / - / {text}")

    def test_behind_a_refusal_and_behind_other_books(self):
        self.refused("x\n", 0)
        self.assertEqual(read_book(self.right + "\n"), ((0, 0, ("did", 1), (), ()),))
        self.refused("x\n", 0)


# What a line may be, as one pattern, apart from the program.
def number(figures):
    return f"(?:0|[1-9][0-9]{{0,{figures - 1}}})"


NAME = "(?!(?:" + "|".join(KEY_WORDS) + ")(?![a-z]))[a-z]{1,8}(?![a-z])"
FROM_ONE, WHO, SCOPE, LINE = "[1-9][0-9]?", number(2), number(3), number(5)
TOLD = f"(?:{number(6)}|:[a-z]{{1,8}})"
FAULTS = f"{NAME}(?:,{NAME})*"
OF_ERRANDS = "|".join([
    f"(?:did|clean) {LINE}", f"(?:ring|hear|raise) {LINE} {NAME}", f"send {LINE} {NAME} {TOLD}",
    f"begin {LINE} {NAME} {NAME} {SCOPE} {number(2)}", f"off {LINE} (?:{SCOPE}|{NAME})",
    f"(?:group|join|left|late) {LINE} {SCOPE}", f"limit {LINE} {SCOPE} {FROM_ONE}", f"wait {LINE} {FROM_ONE}",
    f"(?:take|ask) {LINE} {NAME} {NAME}", f"halt {LINE} {SCOPE} (?:-|{FAULTS})", f"caught {LINE} {FAULTS}",
    f"ended {LINE} (?:value {TOLD}|faults {FAULTS}|off|late)",
])
OF_CLOCK = f"woke {WHO}|late {WHO} {SCOPE}"
OF_OUTSIDE = f"ring {NAME}|send {NAME} {TOLD}|off {number(4)}"
MARK = f"{WHO} {SCOPE} (?:off|late)"
PATTERN = re.compile(f"{number(5)} (?:{WHO} (?:{OF_ERRANDS})|clock (?:{OF_CLOCK})|outside (?:{OF_OUTSIDE}))"
                     f" / (?:-|{MARK}(?: {MARK})*) / (?:-|{WHO}(?: {WHO})*)")


class MadeTests(unittest.TestCase):
    def line(self, chance):
        who, deed, text = chance.choice(ALL_DEEDS)
        return f"{chance.choice((0, 7, 99999))} {who} {text} / {chance.choice(MARKS)[1]} / {chance.choice(WOKEN)[1]}"

    def changed(self, chance, line):
        """The line with one of its words, or one of its signs, changed, gone, twice or exchanged."""
        words = line.split(" ")
        place = chance.randrange(len(words))
        kind = chance.randint(0, 6)
        if kind == 0:
            words[place] = chance.choice(("0", "1", "99", "100", "1000", "10000", "100000", "1000000", "x", "lost", "-",
                                          "/", ":go", "off", "late", "clock", "outside", "a,b", "007", ""))
        elif kind == 1:
            words.pop(place)
        elif kind == 2:
            words.insert(place, chance.choice(words))
        elif kind == 3:
            other = chance.randrange(len(words))
            words[place], words[other] = words[other], words[place]
        elif kind == 4:
            words = words[:place] + self.line(chance).split(" ")[place:]
        line = " ".join(words)
        if kind > 4:
            place = chance.randrange(len(line))
            line = line[:place] + chance.choice(("", " ", "0", "9", "x", ",", "-", "/", ":")) + line[place + (kind > 5):]
        return line

    def test_made_lines(self):
        chance, told = random.Random(82), {True: 0, False: 0}
        for place in range(6000):
            line = self.changed(chance, self.line(chance))
            right = PATTERN.fullmatch(line) is not None
            told[right] += 1
            with self.subTest(line=line):
                if right:
                    self.assertEqual(booktext(read_book(line + "\n")), line + "\n")
                else:
                    with self.assertRaises(BadBook) as caught:
                        read_book(line + "\n")
                    self.assertEqual(caught.exception.place, 0)
        self.assertGreater(min(told.values()), 800)

    def test_made_books(self):
        chance = random.Random(83)
        for place in range(150):
            lines = [self.line(chance) for row in range(chance.randint(0, 8))]
            text = "".join([line + "\n" for line in lines])
            self.assertEqual(booktext(read_book(text)), text)
            self.assertEqual(len(read_book(text)), len(lines))
            self.assertEqual(read_book(booktext(read_book(text))), read_book(text))


if __name__ == "__main__":
    unittest.main()
