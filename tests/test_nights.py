"""The watchman's nights: who may do a step, what each asks and tells [7.1] to [7.7]."""

import unittest

from model import Maker, ModelNight
from nightwatch.errors import BadProgram, Over, WatchError
from nightwatch.nights import Night
from nightwatch.reader import read

RUN = "errand run\nwait 2\nend\n"
WAITS = {
    "wait": "wait 5", "hear": "hear gate", "take": "take post x",
}


def night_of(lines, ahead="", events=None, picks=None):
    return Night(read(ahead + "\n".join(["errand main"] + lines + ["end"])), events, picks)


class NightCase(unittest.TestCase):
    def all_told(self, night):
        numbers = range(len(night.errands()))
        return (night.choices(), night.book(), night.now(), night.over(), night.ready(), night.errands(),
                [night.waiting(number) for number in numbers], [night.outcome(number) for number in numbers],
                night.tree(), night.knot())

    def refuses(self, night, who):
        before = self.all_told(night)
        with self.assertRaises(Over) as caught:
            night.does(who)
        self.assertIsInstance(caught.exception, WatchError)
        self.assertEqual(self.all_told(night), before)

    def steps(self, night, *deeds):
        """The next steps are just of these who's and deeds."""
        for who, deed in deeds:
            row = night.step()
            self.assertEqual((row[1], row[2]), (who, deed))


class MadeTests(NightCase):
    def test_what_look_refuses(self):
        for text, line, word in (("errand a\noff x\nend", 2, "off"), ("errand a\nend\nerrand a\nend", 3, "twice"),
                                 ("errand a\ngive 1\ngive 2\nend", 2, "give")):
            for events in (None, [(0, "ring", "a")]):
                with self.assertRaises(BadProgram) as caught:
                    Night(read(text), events)
                self.assertEqual((caught.exception.line, caught.exception.word), (line, word))

    def test_a_new_night(self):
        night = night_of(["wait 1"], RUN)
        self.assertEqual(night.choices(), [0])
        self.assertEqual(night.ready(), [0])
        self.assertEqual(night.errands(), ["main"])
        self.assertEqual((night.now(), night.over(), night.book()), (0, False, []))
        self.assertEqual((night.waiting(0), night.outcome(0), night.tree()), (None, None, (0, ())))
        self.assertEqual(night.knot(), ([], [], []))

    def test_the_last_errand_is_number_nought(self):
        night = Night(read("errand a\nring x\nend\nerrand b\nring y\nend"))
        self.assertEqual(night.errands(), ["b"])
        self.steps(night, (0, ("ring", 5, "y")))

    def test_events_and_picks_left_out(self):
        text = "errand main\nwait 1\nend"
        told = Night(read(text)).run()
        self.assertEqual(Night(read(text), None, None).run(), told)
        self.assertEqual(Night(read(text), [], []).run(), told)
        self.assertEqual(Night(read(text), picks=[3]).run(), told)
        self.assertEqual(Night(read(text), events=[]).run(), told)

    def test_what_was_handed_in_stays_and_may_be_changed(self):
        events, picks = [(1, "ring", "gate"), (3, "ring", "gate")], [0, 1, 1]
        lines = ["group g", "begin a run in g", "begin b run in g", "end", "hear gate"]
        told = night_of(lines, RUN, list(events), list(picks)).run()
        night = night_of(lines, RUN, events, picks)
        night.step()
        self.assertEqual((events, picks), ([(1, "ring", "gate"), (3, "ring", "gate")], [0, 1, 1]))
        events.clear()
        picks[:] = [0, 0, 0, 0, 0]
        self.assertEqual(night.run(), told)

    def test_two_side_by_side(self):
        one, two = night_of(["send post 1", "take post x", "wait 3"]), night_of(["send post 1", "take post x", "wait 3"])
        one.run()
        self.assertEqual((two.book(), two.now(), two.choices()), ([], 0, [0]))
        self.assertEqual(two.run(), one.run())


class ChoiceTests(NightCase):
    def test_outside_first(self):
        night = night_of(["wait 1"], "", [(0, "ring", "a"), (0, "ring", "b"), (1, "ring", "c")])
        self.assertEqual(night.choices(), ["outside"])
        self.refuses(night, 0)
        self.refuses(night, "clock")
        night.step()
        self.assertEqual(night.choices(), ["outside"])
        night.step()
        self.assertEqual(night.choices(), [0])
        self.refuses(night, "outside")
        night.step()
        self.assertEqual(night.choices(), ["outside"])
        self.assertEqual(night.now(), 0)
        self.steps(night, ("outside", ("ring", "c")), ("clock", ("woke", 0)))
        self.assertEqual(night.now(), 1)

    def test_the_clock_ahead_of_ready_ones(self):
        night = night_of(["group g", "begin a run in g", "begin b run in g", "end"], RUN)
        for place in range(6):
            night.step()
        self.assertEqual(night.choices(), ["clock"])
        self.refuses(night, 1)
        night.step()
        self.assertEqual((night.ready(), night.choices()), ([1], ["clock"]))
        self.refuses(night, 1)
        night.step()
        self.assertEqual((night.ready(), night.choices()), ([1, 2], [1, 2]))
        self.refuses(night, "clock")

    def test_events_and_dues_of_later_times_wait_for_the_ready_ones(self):
        night = night_of(["limit 1", "ring a", "ring b", "wait 2", "end"], "", [(1, "ring", "c"), (2, "ring", "d")])
        self.steps(night, (0, ("limit", 2, 1, 1)))
        self.assertEqual(night.choices(), [0])
        self.steps(night, (0, ("ring", 3, "a")), (0, ("ring", 4, "b")), (0, ("wait", 5, 2)), ("outside", ("ring", "c")),
                   ("clock", ("late", 0, 1)), (0, ("late", 2, 1)), (0, ("ended", 0, ("value", 0))))
        self.assertEqual((night.choices(), night.now()), ([], 1))

    def test_what_comes_first_of_event_and_due(self):
        for tick, told in ((1, "outside"), (4, "outside"), (5, "outside"), (6, "clock"), (9, "clock")):
            night = night_of(["wait 5", "wait 9"], "", [(tick, "ring", "a")])
            night.step()
            with self.subTest(tick=tick):
                self.assertEqual(night.choices(), [told])
                night.step()
                self.assertEqual(night.now(), min(tick, 5))

    def test_nobody_any_more(self):
        night = night_of([], "", [(3, "ring", "a")])
        night.step()
        self.assertEqual((night.choices(), night.over(), night.step(), night.now()), ([], True, None, 0))
        for who in (0, "outside", "clock"):
            self.refuses(night, who)

    def test_a_standstill(self):
        night = night_of(["hear gate"])
        night.step()
        self.assertEqual((night.choices(), night.over(), night.step()), ([], True, None))
        self.assertEqual(night.waiting(0), ("hear", 2, "gate"))
        self.assertEqual(night.run(), night.book())

    def test_an_event_ends_a_standstill(self):
        night = night_of(["hear gate"], "", [(9999, "ring", "gate")])
        night.step()
        self.assertEqual((night.choices(), night.over()), (["outside"], False))
        self.steps(night, ("outside", ("ring", "gate")), (0, ("ended", 0, ("value", 0))))
        self.assertEqual(night.now(), 9999)

    def test_does_of_each_ready_one(self):
        for who in (0, 1, 2):
            night = night_of(["group g", "begin a run in g", "begin b run in g", "ring z", "end"], "errand run\nend\n")
            for place in (0, 0, 0):
                night.does(0)
            self.assertEqual(night.choices(), [1, 2, 0])
            row = night.does(who)
            self.assertEqual(row[1], who)
            self.assertEqual(night.book()[-1], row)

    def test_does_of_anything_else(self):
        night = night_of(["group g", "begin a run in g", "end"], "errand run\nring a\nring b\nend\n")
        night.step()
        night.step()
        self.assertEqual(night.choices(), [1, 0])
        for who in (True, False, None, 2, -1, 99, "0", "1", "", "none", "outside", "clock", 0.5, (), [], [1], (1,), {},
                    b"clock"):
            self.refuses(night, who)
        self.assertEqual(night.does(1)[1], 1)

    def test_does_of_truths_at_a_clock_s_or_an_event_s_turn(self):
        night = night_of(["wait 1"], "", [(0, "ring", "a")])
        for who in (True, False, 0, "clock"):
            self.refuses(night, who)
        night.step()
        night.step()
        for who in (True, False, 0, "outside"):
            self.refuses(night, who)


class PickTests(NightCase):
    lines = ["group g", "begin a run in g", "begin b run in g", "ring z", "end"]
    ahead = "errand run\nring a\nring b\nend\n"

    def whos(self, picks, does=()):
        night = night_of(self.lines, self.ahead, None, picks)
        for who in does:
            night.does(who)
        return [row[1] for row in night.run()]

    def test_the_place_by_the_pick(self):
        self.assertEqual(self.whos([])[:5], [0, 0, 1, 0, 1])
        self.assertEqual(self.whos([0, 0, 1, 2, 1])[:5], [0, 0, 0, 0, 2])
        self.assertEqual(self.whos([7, 9, 1, 0, 1])[:5], [0, 0, 0, 1, 0])
        self.assertEqual(self.whos([7, 9, 999999, 5, 4])[:5], [0, 0, 0, 0, 2])

    def test_one_ready_one_uses_a_pick_up_too(self):
        night = night_of(self.lines, self.ahead, None, [0, 0, 0, 1])
        self.assertEqual([night.step()[1] for place in range(4)], [0, 0, 1, 1])

    def test_does_uses_none_up(self):
        self.assertEqual(self.whos([1, 2], (0, 0)), [0, 0] + self.whos_behind([1, 2]))

    def whos_behind(self, picks):
        night = night_of(self.lines, self.ahead, None, [0, 0] + picks)
        return [row[1] for row in night.run()][2:]

    def test_clock_and_events_use_none_up(self):
        lines = ["group g", "wait 1", "begin a run in g", "begin b run in g", "end"]
        night = night_of(lines, self.ahead, [(0, "ring", "q"), (1, "ring", "q")], [0, 0, 0, 1, 2])
        self.assertEqual([row[1] for row in night.run()][:8], ["outside", 0, 0, "outside", "clock", 0, 0, 0])


class DeedTests(NightCase):
    def test_a_step_s_row(self):
        night = night_of(["ring a"])
        row = night.step()
        self.assertEqual(row, (0, 0, ("ring", 2, "a"), (), ()))
        self.assertIs(type(row), tuple)
        for part in row[2:]:
            self.assertIs(type(part), tuple)

    def test_the_doer_goes_behind_all_others(self):
        night = night_of(["group g", "begin a run in g", "begin b run in g", "ring z", "end"], "errand run\nring q\nend\n")
        told = []
        for place in range(6):
            night.step()
            told.append(night.ready())
        self.assertEqual(told, [[0], [1, 0], [0, 1], [1, 2, 0], [2, 0], [0, 2]])

    def test_a_take_with_a_letter_there_does_not_wait(self):
        night = night_of(["send post :w", "take post x", "give x"])
        night.step()
        self.assertEqual(night.step(), (0, 0, ("take", 3, "post", "x"), (), ()))
        self.assertIsNone(night.waiting(0))
        self.assertEqual(night.ready(), [0])
        self.assertEqual(night.run()[-1][2], ("ended", 0, ("value", ":w")))

    def test_outcomes_as_they_are_told_to_who_asks(self):
        bodies = {
            "give 5": 5, "give 0": 0, "give :late": ":late", "wait 1": 0, "raise lost": ":lost",
            "group g\nraise torn\nend": ":torn", "hear never": ":off", "wait 9": ":late",
        }
        for body, value in bodies.items():
            within = " within 3" if body == "wait 9" else ""
            off = ["off a"] if body == "hear never" else []
            lines = ["try", "group g", "begin a run in g" + within, "keep", "wait 1"] + off + [
                "ask a x", "send post x", "ask a y", "send post y", "end", "end", "but any", "end"]
            night = night_of(lines, "errand run\n" + body + "\nend\n")
            sent = [row[2][3] for row in night.run() if row[2][0] == "send"]
            with self.subTest(body=body):
                self.assertEqual(sent, [value, value])

    def test_waiting_wants(self):
        for word, line in WAITS.items():
            night = night_of([line])
            night.step()
            self.assertEqual(night.waiting(0)[0], word)
            self.assertEqual(night.ready(), [])

    def test_struck_at_each_kind_of_waiting(self):
        for word, line in WAITS.items():
            night = night_of([line], "", [(1, "off", 0)])
            night.step()
            row = night.step()
            with self.subTest(word=word):
                self.assertEqual(row, (1, "outside", ("off", 0), ((0, 0, "off"),), (0,)))
                self.assertIsNone(night.waiting(0))
                self.assertEqual(night.ready(), [0])
                self.assertEqual(night.step(), (1, 0, ("ended", 0, ("off",)), (), ()))
                self.assertEqual((night.over(), night.now()), (True, 1))

    def test_a_struck_wait_is_due_no_more(self):
        night = night_of(["limit 2", "wait 5", "end", "wait 9"])
        self.assertEqual([row[0] for row in night.run()], [0, 0, 2, 2, 2, 11, 11])

    def test_a_struck_join_and_its_halt(self):
        night = night_of(["limit 1", "group g", "begin a run in g", "end", "end"], "errand run\ndo\nwait 9\nlast\nwait 3\nend\nend\n")
        rows = night.run()
        self.assertIn((1, 0, ("halt", 10, 2, ()), ((0, 2, "off"), (1, 0, "off")), (1,)), rows)
        self.assertEqual(night.outcome(1), ("off",))
        self.assertEqual(night.now(), 4)

    def test_a_group_s_errands_end_ahead_of_its_leaving(self):
        night = night_of(["group g", "begin a run in g", "end", "ring z"], RUN)
        deeds = [row[2][0] for row in night.run()]
        self.assertEqual(deeds, ["group", "begin", "wait", "join", "woke", "ended", "left", "ring", "ended"])

    def test_off_of_one_that_was_not_begun_is_nothing(self):
        night = night_of(["wait 2"], "", [(1, "off", 1), (1, "off", 9999)])
        rows = night.run()
        self.assertEqual(rows[1:3], [(1, "outside", ("off", 1), (), ()), (1, "outside", ("off", 9999), (), ())])
        self.assertEqual(night.outcome(0), ("value", 0))

    def test_off_of_one_that_has_ended_is_nothing(self):
        night = night_of(["group g", "begin a run in g", "wait 3", "end"], "errand run\nend\n", [(1, "off", 1)])
        self.assertIn((1, "outside", ("off", 1), (), ()), night.run())
        self.assertEqual(night.outcome(1), ("value", 0))

    def test_letters_from_outside(self):
        night = night_of(["take post x", "take post y", "give y"], "", [(2, "send", "post", 0), (2, "send", "post", ":z")])
        rows = night.run()
        self.assertEqual(rows[1:3], [(2, "outside", ("send", "post", 0), (), (0,)),
                                     (2, "outside", ("send", "post", ":z"), (), ())])
        self.assertEqual(night.outcome(0), ("value", ":z"))

    def test_an_errand_s_own_time(self):
        night = night_of(["group g", "begin a run in g within 1", "end"], RUN)
        self.assertIn((1, "clock", ("late", 1, 0), ((1, 0, "late"),), (1,)), night.run())
        self.assertEqual(night.outcome(1), ("late",))
        night = night_of(["group g", "begin a run in g within 3", "end", "wait 9"], RUN)
        self.assertEqual([row[2][0] for row in night.run() if row[1] == "clock"], ["woke", "woke"])
        self.assertEqual(night.outcome(1), ("value", 0))

    def test_begun_in_a_group_that_is_called_off(self):
        night = night_of(["group g", "off g", "begin a run in g", "begin b run in g within 9", "end"], RUN)
        rows = night.run()
        self.assertEqual(rows[1], (0, 0, ("off", 6, 1), ((0, 1, "off"),), ()))
        self.assertEqual(rows[2], (0, 0, ("begin", 7, "a", "run", 1, 0), ((1, 0, "off"),), (1,)))
        self.assertEqual((night.outcome(1), night.outcome(2), night.outcome(0)), (("off",), ("off",), ("value", 0)))
        self.assertEqual(night.now(), 0)


class AskedTests(NightCase):
    def made(self):
        night = night_of(["group g", "begin a run in g", "begin b run in g", "ask a x", "end"], RUN)
        for place in range(6):
            night.step()
        return night

    def test_numbers_that_were_not_begun(self):
        night = self.made()
        for number in (3, 99, -1, -3):
            for asked in (night.waiting, night.outcome):
                with self.assertRaises(Over):
                    asked(number)
        self.assertEqual(night.errands(), ["main", "run", "run"])

    def test_wants_and_outcomes(self):
        night = self.made()
        self.assertEqual([night.waiting(number) for number in range(3)],
                         [("ask", 8, "a", "x"), ("wait", 2, 2), ("wait", 2, 2)])
        self.assertEqual([night.outcome(number) for number in range(3)], [None] * 3)
        self.assertEqual(night.tree(), (0, ((1, False, ((1, ()), (2, ()))),)))
        night.run()
        self.assertEqual([night.waiting(number) for number in range(3)], [None] * 3)
        self.assertEqual([night.outcome(number) for number in range(3)], [("value", 0)] * 3)
        self.assertEqual(night.tree(), (0, ()))

    def test_lists_that_were_told_and_changed(self):
        night = self.made()
        before = self.all_told(night)
        for told in (night.choices(), night.book(), night.ready(), night.errands()) + night.knot():
            told.append(7)
            told.clear()
        self.assertEqual(self.all_told(night), before)
        book = night.run()
        book.clear()
        self.assertEqual(len(night.book()), 13)

    def test_lists_that_were_told_stay(self):
        night = night_of(["group g", "begin a run in g", "end"], RUN)
        told = night.choices(), night.book(), night.ready(), night.errands()
        night.run()
        self.assertEqual(told, ([0], [], [0], ["main"]))

    def test_run_tells_earlier_rows_too(self):
        night = night_of(["ring a", "ring b"])
        first = night.step()
        book = night.run()
        self.assertEqual((book[0], len(book)), (first, 3))
        self.assertIs(type(book), list)


class KnotTests(NightCase):
    def knot(self, lines, ahead, knot, events=None):
        night = night_of(lines, ahead, events)
        night.run()
        self.assertEqual(night.knot(), knot)
        self.assertIs(type(night.knot()), tuple)

    def test_nobody_waits(self):
        self.knot(["ring a"], "", ([], [], []))

    def test_one_that_nobody_might_serve(self):
        self.knot(["hear a"], "", ([], [], [0]))
        self.knot(["take a x"], "", ([], [], [0]))
        self.knot(["ring a", "hear a"], "", ([], [], [0]))
        self.knot(["send b 1", "take a x", "send b 1"], "", ([], [], [0]))

    def test_one_that_waits_for_itself(self):
        self.knot(["hear a", "ring a"], "", ([0], [0], []))
        self.knot(["take a x", "send a 1"], "", ([0], [0], []))
        self.knot(["hear a", "send a 1"], "", ([], [], [0]))
        self.knot(["take a x", "ring a"], "", ([], [], [0]))
        self.knot(["hear a", "when x 5", "ring a", "end"], "", ([0], [0], []))
        self.knot(["repeat 2", "ring a", "hear a", "end"], "", ([0], [0], []))

    def test_through_what_might_be_begun(self):
        leaf = "errand leaf\nring a\nend\nerrand mid\ngroup g\nbegin p leaf in g\nend\nend\n"
        self.knot(["hear a", "group g", "begin p leaf in g", "end"], leaf, ([0], [0], []))
        self.knot(["hear a", "group g", "begin p mid in g", "end"], leaf, ([0], [0], []))
        self.knot(["hear b", "group g", "begin p mid in g", "end"], leaf, ([], [], [0]))
        box = "errand leaf\nsend a 1\nend\n"
        self.knot(["take a x", "group g", "begin p leaf in g", "end"], box, ([0], [0], []))

    def test_a_join_a_halt_and_an_ask(self):
        ear = "errand ear\nhear a\nend\n"
        self.knot(["group g", "begin p ear in g", "end"], ear, ([], [], [0, 1]))
        self.knot(["group g", "begin p ear in g", "end", "ring a"], ear, ([0, 1], [0, 1], []))
        self.knot(["group g", "begin p ear in g", "begin q ear in g", "ask q x", "end", "ring a"], ear,
                  ([0, 1, 2], [0, 2], []))
        self.knot(["group g", "begin p ear in g", "begin q ear in g", "end", "ring a"], ear, ([0, 1, 2], [0, 1], []))
        kept = "errand ear\nkeep\nhear a\nend\nend\n"
        self.knot(["try", "group g", "begin p ear in g", "wait 1", "raise lost", "end", "but any", "end", "ring a"], kept,
                  ([0, 1], [0, 1], []))

    def test_those_that_are_not_in_the_knot_are_idle(self):
        ears = "errand ear\nhear a\nend\nerrand both\nhear b\nring b\nend\n"
        self.knot(["group g", "begin p ear in g", "begin q both in g", "end"], ears, ([2], [2], [0, 1]))

    def test_the_round_begins_where_one_comes_again(self):
        ears = "errand one\nhear a\nring b\nend\nerrand two\nhear b\nring a\nend\n"
        self.knot(["group g", "begin q two in g", "begin p one in g", "end"], ears, ([0, 1, 2], [1, 2], []))

    def test_one_that_waits_for_a_time_is_in_none(self):
        night = night_of(["group g", "begin p ear in g", "wait 5", "ring a", "end"], "errand ear\nhear a\nend\n")
        told = []
        for place in range(5):
            told.append(night.knot())
            night.step()
        self.assertEqual(told, [([], [], []), ([], [], []), ([], [], []), ([], [], [1]), ([], [], [1])])
        self.assertEqual(night.waiting(1), ("hear", 2, "a"))

    def test_what_comes_from_outside_is_left_aside(self):
        night = night_of(["hear a"], "", [(5, "ring", "a")])
        night.step()
        self.assertEqual(night.knot(), ([], [], [0]))
        night.run()
        self.assertEqual(night.knot(), ([], [], []))

    def test_ended_ones_serve_nobody(self):
        night = night_of(["group g", "begin p run in g", "wait 1", "hear a", "end"], "errand run\nring a\nend\n")
        night.run()
        self.assertEqual(night.knot(), ([], [], [0]))


# Nights beside another way of doing the same: all that they tell is the same behind each step.
class AlikeTests(NightCase):
    def alike(self, night, other):
        numbers = range(len(other.errands))
        self.assertEqual(night.choices(), other.choices())
        self.assertEqual(night.over(), other.choices() == [])
        self.assertEqual(night.now(), other.tick)
        self.assertEqual(night.ready(), other.ready)
        self.assertEqual(night.errands(), [one["name"] for one in other.errands])
        self.assertEqual([night.waiting(number) for number in numbers],
                         [other.machine(number).waiting() for number in numbers])
        self.assertEqual([night.outcome(number) for number in numbers], [other.outcome(number) for number in numbers])
        self.assertEqual(night.tree(), other.tree())
        self.assertEqual(night.knot(), other.knot())

    def test_made_nights(self):
        maker, deeds, knots = Maker(71), {}, 0
        for number in range(500):
            program, events, picks = maker.program(), maker.events(), maker.picks()
            night, other = Night(program, events, picks), ModelNight(program, events, picks)
            with self.subTest(number=number):
                self.alike(night, other)
                row = night.step()
                while row is not None:
                    self.assertEqual(row, other.step())
                    self.alike(night, other)
                    deeds[row[2][0]] = deeds.get(row[2][0], 0) + 1
                    row = night.step()
                self.assertIsNone(other.step())
                self.assertEqual(night.book(), other.rows)
                knots += night.knot()[0] != []
        for word in ("did", "clean", "ring", "send", "raise", "begin", "off", "group", "join", "left", "late", "limit",
                     "wait", "hear", "take", "ask", "halt", "caught", "ended", "woke"):
            self.assertGreater(deeds.get(word, 0), 20, word)
        self.assertGreater(knots, 20)

    def test_made_nights_by_does(self):
        maker = Maker(72)
        for number in range(100):
            program, events = maker.program(), maker.events()
            night, other = Night(program, events), ModelNight(program, events)
            with self.subTest(number=number):
                while night.choices():
                    who = maker.chance.choice(night.choices())
                    self.assertEqual(night.does(who), other.does(who))
                self.assertEqual(other.choices(), [])


if __name__ == "__main__":
    unittest.main()
