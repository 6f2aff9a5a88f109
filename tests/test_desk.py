"""The desk, row by row [9.1] to [9.4]."""

import unittest

from model import Maker
from nightwatch.booktexts import deed_text, outcome_text, row_text
from nightwatch.desk import Desk
from nightwatch.nights import Night
from nightwatch.reader import read
from nightwatch.writer import written

NO = ["not understood"]
AHEAD = ("| x", "|", "at 0 ring gate", "at 0 send post 1", "at 0 off 0", "pick 0", "begin")
BEHIND = ("step", "run", "book 0", "book 9", "now", "who", "knot", "rise 0")
RUN = ["errand run", "  hear gate", "  give 4", "end"]
MAIN = ["errand main", "  group g", "    begin a run in g", "    ask a x", "  end", "  give x", "end"]
# The book of these two with a bell from outside at tick 3.
BOOK = [
    "0 0 group 6 1 / - / -",
    "0 0 begin 7 a run 1 0 / - / 1",
    "0 1 hear 2 gate / - / -",
    "0 0 ask 8 a x / - / -",
    "3 outside ring gate / - / 1",
    "3 1 did 3 / - / -",
    "3 1 ended 0 value 4 / - / 0",
    "3 0 join 6 1 / - / -",
    "3 0 left 6 1 / - / -",
    "3 0 did 10 / - / -",
    "3 0 ended 0 value 4 / - / -",
]


class DeskCase(unittest.TestCase):
    def said(self, desk, row, answer):
        told = desk.say(row)
        self.assertEqual(told, answer, row)
        self.assertIs(type(told), list)

    def all_said(self, desk, rows, answer=NO):
        for row in rows:
            with self.subTest(row=row):
                self.said(desk, row, answer)

    def desk_of(self, lines, rows=()):
        """A desk that was told these lines and rows, and a night begun."""
        desk = Desk()
        for line in lines:
            desk.say("| " + line)
        for row in rows:
            self.assertNotEqual(desk.say(row), NO)
        self.said(desk, "begin", ["night"])
        return desk


class AheadTests(DeskCase):
    def test_lines(self):
        desk = Desk()
        self.said(desk, "| errand main", ["line 1"])
        self.said(desk, "|", ["line 2"])
        self.said(desk, "| ", ["line 3"])
        self.said(desk, "|   wait  3  ", ["line 4"])
        self.said(desk, "| |", ["line 5"])
        self.said(desk, "|end", NO)
        self.said(desk, " | end", NO)
        self.said(desk, "|| end", NO)
        self.said(desk, "|\tend", NO)
        self.said(desk, "| end", ["line 6"])
        self.said(desk, "begin", ["row 5"])

    def test_lines_are_put_together_with_line_ends(self):
        desk = Desk()
        for place, row in enumerate(("|", "| errand main", "|", "|   ring a", "| end", "|"), start=1):
            self.said(desk, row, [f"line {place}"])
        self.said(desk, "begin", ["night"])
        self.said(desk, "step", ["0 0 ring 4 a / - / -"])

    def test_events(self):
        desk = Desk()
        self.said(desk, "at 0 ring gate", ["event 1"])
        self.said(desk, "at 0 send post 999999", ["event 2"])
        self.said(desk, "at 5 send post :late", ["event 3"])
        self.said(desk, "at 5 off 0", ["event 4"])
        self.said(desk, "at 4 off 0", NO)
        self.said(desk, "at 0 ring gate", NO)
        self.said(desk, "at 5 off 9999", ["event 5"])
        self.said(desk, "at 9999 send post 0", ["event 6"])
        self.said(desk, "at 9998 ring gate", NO)
        self.said(desk, "at 9999 ring abcdefgh", ["event 7"])

    def test_rows_that_are_no_events(self):
        desk = Desk()
        self.all_said(desk, (
            "at", "at 0", "at 0 ring", "at ring gate", "at 10000 ring gate", "at 00 ring gate", "at 01 ring gate",
            "at -1 ring gate", "at x ring gate", "at 0 ring end", "at 0 ring Gate", "at 0 ring abcdefghi", "at 0 ring 5",
            "at 0 ring :gate", "at 0 ring gate x", "at  0 ring gate", "at 0  ring gate", "at 0 ring  gate",
            " at 0 ring gate", "at 0 ring gate ", "at 0 send post", "at 0 send post x", "at 0 send post 1000000",
            "at 0 send post 01", "at 0 send post :", "at 0 send post :abcdefghi", "at 0 send 5 5", "at 0 send end 5",
            "at 0 send post 5 5", "at 0 off", "at 0 off 10000", "at 0 off 007", "at 0 off x", "at 0 off -1", "at 0 off 0 0",
            "at 0 take post x", "at 0 hear gate", "at 0 woke 0", "At 0 ring gate", "at 0 ring\tgate", "at  ring gate",
            "at 0000001 ring gate",
        ))
        self.said(desk, "at 0 ring gate", ["event 1"])

    def test_picks(self):
        desk = Desk()
        self.said(desk, "pick 0", ["pick 1"])
        self.said(desk, "pick 999999", ["pick 2"])
        self.all_said(desk, ("pick", "pick ", "pick 1000000", "pick 00", "pick 01", "pick -1", "pick x", "pick 1 2",
                             "pick  1", " pick 1", "pick 1 ", "pick :a", "Pick 1", "picks 1"))
        self.said(desk, "pick 7", ["pick 3"])

    def test_rows_that_are_none(self):
        for row in ("", " ", "  ", "x", "begin x", " begin", "begin ", "Begin", "end", "errand main", "night", "line 1",
                    "event 1", "over", "help", "not understood", "0", "\t", "begin begin", "book", "rise"):
            desk = Desk()
            with self.subTest(row=row):
                self.said(desk, row, NO)
                self.said(desk, "| x", ["line 1"])

    def test_rows_that_may_not_come_yet(self):
        desk = Desk()
        self.all_said(desk, BEHIND)
        self.said(desk, "| x", ["line 1"])
        self.all_said(desk, BEHIND)

    def test_rows_that_may_come_no_more(self):
        desk = self.desk_of(["errand main", "wait 2", "end"])
        self.all_said(desk, AHEAD)
        desk.say("run")
        self.all_said(desk, AHEAD)
        self.said(desk, "book 9", ["0 0 wait 2 2 / - / -", "2 clock woke 0 / - / 0", "2 0 ended 0 value 0 / - / -"])


class BeginTests(DeskCase):
    def test_what_reading_refuses(self):
        for lines, answer in (([], "row 1"), ([""], "row 1"), (["", ""], "row 2"), (["errand main"], "row 1"),
                              (["errand main", "wait 0", "end"], "row 2"), (["errand main", "wait 1"], "row 2"),
                              (["wait 1"], "row 1"), (["errand main", "end", "end"], "row 3"),
                              (["errand main", "\twait 1", "end"], "row 2")):
            desk = Desk()
            for line in lines:
                desk.say("| " + line)
            with self.subTest(lines=lines):
                self.said(desk, "begin", [answer])
                self.said(desk, "begin", [answer])
                self.all_said(desk, BEHIND)

    def test_what_looking_refuses(self):
        for lines, answer in ((["errand main", "off x", "end"], "2 off"), (["errand a", "end", "errand a", "end"], "3 twice"),
                              (["errand main", "", "give 1", "give 2", "end"], "3 give"),
                              (["errand main"] + ["repeat 9"] * 4 + ["end"] * 5, "1 weight")):
            desk = Desk()
            for line in lines:
                desk.say("| " + line)
            with self.subTest(lines=lines):
                self.said(desk, "begin", [answer])
                self.said(desk, "begin", [answer])
                self.all_said(desk, BEHIND)

    def test_a_refused_one_that_goes_on(self):
        desk = Desk()
        desk.say("| errand main")
        desk.say("at 4 ring gate")
        desk.say("pick 3")
        self.said(desk, "begin", ["row 1"])
        self.said(desk, "| hear gate", ["line 2"])
        self.said(desk, "at 3 ring gate", NO)
        self.said(desk, "at 6 ring gate", ["event 2"])
        self.said(desk, "pick 4", ["pick 2"])
        self.said(desk, "begin", ["row 2"])
        self.said(desk, "| end", ["line 3"])
        self.said(desk, "begin", ["night"])
        self.said(desk, "run", ["0 0 hear 2 gate / - / -", "4 outside ring gate / - / 0", "4 0 ended 0 value 0 / - / -",
                                "over"])


class BehindTests(DeskCase):
    def made(self):
        return self.desk_of(RUN + MAIN, ("at 3 ring gate", "at 9 ring gate"))

    def test_step(self):
        desk = self.made()
        for line in BOOK:
            self.said(desk, "step", [line])
        self.said(desk, "step", ["over"])
        self.said(desk, "step", ["over"])

    def test_run(self):
        desk = self.made()
        self.said(desk, "run", BOOK + ["over"])
        self.said(desk, "run", ["over"])
        self.said(desk, "step", ["over"])
        desk = self.made()
        desk.say("step")
        desk.say("step")
        self.said(desk, "run", BOOK[2:] + ["over"])

    def test_book(self):
        desk = self.made()
        self.said(desk, "book 0", [])
        self.said(desk, "book 5", [])
        desk.say("step")
        desk.say("step")
        for many, lines in ((0, []), (1, BOOK[:1]), (2, BOOK[:2]), (3, BOOK[:2]), (999999, BOOK[:2])):
            self.said(desk, f"book {many}", lines)
        desk.say("run")
        self.said(desk, "book 11", BOOK)
        self.said(desk, "book 10", BOOK[:10])

    def test_now(self):
        desk = self.made()
        self.said(desk, "now", ["tick 0"])
        for place in range(5):
            desk.say("step")
        self.said(desk, "now", ["tick 3"])

    def test_who(self):
        desk = self.made()
        self.said(desk, "who", ["0 main ready"])
        desk.say("step")
        desk.say("step")
        self.said(desk, "who", ["0 main ready", "1 run ready"])
        desk.say("step")
        desk.say("step")
        self.said(desk, "who", ["0 main waits ask 8 a x", "1 run waits hear 2 gate"])
        for place in range(3):
            desk.say("step")
        self.said(desk, "who", ["0 main ready", "1 run ended value 4"])
        desk.say("run")
        self.said(desk, "who", ["0 main ended value 4", "1 run ended value 4"])

    def test_who_with_other_wants_and_outcomes(self):
        lines = ["errand bad", "raise lost", "end", "errand slow", "do", "wait 9", "last", "wait 9", "end",
                 "end", "errand main", "group g", "begin a slow in g within 2", "begin b bad in g", "end", "end"]
        desk = self.desk_of(lines)
        for place in range(9):
            desk.say("step")
        self.said(desk, "who", ["0 main waits halt 12 1 -", "1 slow ready", "2 bad ended faults lost"])
        desk.say("run")
        self.said(desk, "who", ["0 main ended faults lost", "1 slow ended off", "2 bad ended faults lost"])

    def test_knot(self):
        desk = self.made()
        self.said(desk, "knot", ["knot none", "round none", "idle none"])
        for place in range(4):
            desk.say("step")
        self.said(desk, "knot", ["knot none", "round none", "idle 0 1"])
        lines = ["errand one", "hear a", "ring b", "end", "errand two", "hear b", "ring a", "end", "errand main", "group g",
                 "begin p one in g", "begin q two in g", "begin r one in g", "end", "end"]
        desk = self.desk_of(lines)
        desk.say("run")
        self.said(desk, "knot", ["knot 0 1 2 3", "round 1 2", "idle none"])

    def test_picks(self):
        lines = ["errand run", "ring a", "ring b", "end", "errand main", "group g", "begin p run in g", "begin q run in g",
                 "end", "end"]
        desk = self.desk_of(lines, ("pick 0", "pick 0", "pick 1", "pick 7", "pick 999999"))
        night = Night(read("\n".join(lines)), [], [0, 0, 1, 7, 999999])
        self.said(desk, "run", [row_text(row) for row in night.run()] + ["over"])

    def test_rows_that_are_none(self):
        desk = self.made()
        self.all_said(desk, (
            "", " ", "x", "step ", " step", "step 1", "Step", "run 2", "runs", "book", "book ", "book x", "book -1",
            "book 01", "book 1000000", "book 1 2", "book  1", "now 1", "who 0", "knots", "knot 1", "rise", "rise x",
            "rise 1", "rise -1", "rise 00", "rise 0 0", "over", "steps", "\tstep", "book :a", "rise 1000000",
        ))
        self.said(desk, "step", BOOK[:1])


class RiseTests(DeskCase):
    def made(self, rows=("at 3 ring gate", "at 9 ring gate")):
        return self.desk_of(RUN + MAIN, rows)

    def test_from_each_number_of_rows(self):
        for many in range(len(BOOK) + 1):
            desk = self.made()
            desk.say("run")
            with self.subTest(many=many):
                self.said(desk, f"rise {many}", [f"up {many}"])
                self.said(desk, "book 99", BOOK[:many])
                self.said(desk, "run", BOOK[many:] + ["over"])
                self.said(desk, "book 99", BOOK)

    def test_more_than_there_are(self):
        desk = self.made()
        self.said(desk, "rise 1", NO)
        self.said(desk, "rise 0", ["up 0"])
        desk.say("step")
        desk.say("step")
        self.said(desk, "rise 3", NO)
        self.said(desk, "book 9", BOOK[:2])
        self.said(desk, "rise 2", ["up 2"])
        self.said(desk, "rise 1", ["up 1"])
        self.said(desk, "rise 2", NO)
        self.said(desk, "run", BOOK[1:] + ["over"])

    def test_from_then_on_with_that_one(self):
        desk = self.made()
        desk.say("run")
        desk.say("rise 3")
        self.said(desk, "now", ["tick 0"])
        self.said(desk, "who", ["0 main ready", "1 run waits hear 2 gate"])
        self.said(desk, "step", BOOK[3:4])
        self.all_said(desk, AHEAD)

    def test_events_and_picks_that_are_not_used(self):
        maker = Maker(94)
        for number in range(25):
            program, events, picks = maker.program(), maker.events(), maker.picks()
            rows = [" ".join(["at"] + [str(part) for part in event]) for event in events] + [f"pick {pick}" for pick in picks]
            book = [row_text(row) for row in Night(program, events, picks).run()]
            desk = self.desk_of(written(program).split("\n")[:-1], rows)
            # The lines of the program written are those of a text without lines of blanks.
            self.said(desk, "run", book + ["over"])
            for place in range(4):
                many = maker.chance.randint(0, len(book))
                with self.subTest(number=number, many=many):
                    self.said(desk, f"rise {many}", [f"up {many}"])
                    more = maker.chance.randint(0, len(book) - many)
                    for step in range(more):
                        self.said(desk, "step", book[many + step:many + step + 1])
                    again = maker.chance.randint(0, many + more)
                    self.said(desk, f"rise {again}", [f"up {again}"])
                    self.said(desk, "run", book[again:] + ["over"])


class AloneTests(DeskCase):
    def test_two_side_by_side(self):
        one, two = Desk(), Desk()
        one.say("| errand main")
        one.say("at 5 ring a")
        one.say("pick 1")
        self.said(two, "| errand main", ["line 1"])
        self.said(two, "at 0 ring a", ["event 1"])
        self.said(two, "pick 1", ["pick 1"])
        one.say("| end")
        one.say("begin")
        self.said(two, "step", NO)

    def test_lists_that_were_told_and_changed(self):
        desk = self.desk_of(RUN + MAIN, ("at 3 ring gate",))
        for row in ("run", "book 9", "who", "knot", "now", "rise 11"):
            desk.say(row).clear()
        desk.say("nothing").append("x")
        self.said(desk, "nothing", NO)
        self.said(desk, "book 99", BOOK)

    def test_made_nights(self):
        maker = Maker(95)
        for number in range(60):
            program, events, picks = maker.program(), maker.events(), maker.picks()
            rows = [" ".join(["at"] + [str(part) for part in event]) for event in events] + [f"pick {pick}" for pick in picks]
            desk, night = self.desk_of(written(program).split("\n")[:-1], rows), Night(program, events, picks)
            with self.subTest(number=number):
                while not night.over():
                    self.said(desk, "step", [row_text(night.step())])
                    self.said(desk, "now", [f"tick {night.now()}"])
                    self.said(desk, "who", self.who_of(night))
                    told = [" ".join([str(one) for one in part]) or "none" for part in night.knot()]
                    self.said(desk, "knot", ["knot " + told[0], "round " + told[1], "idle " + told[2]])
                self.said(desk, "step", ["over"])

    def who_of(self, night):
        told = []
        for number, name in enumerate(night.errands()):
            state = "ready"
            if number not in night.ready():
                want, outcome = night.waiting(number), night.outcome(number)
                state = "waits " + deed_text(want) if want else "ended " + outcome_text(outcome)
            told.append(f"{number} {name} {state}")
        return told


if __name__ == "__main__":
    unittest.main()
