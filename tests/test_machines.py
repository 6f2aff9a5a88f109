"""One errand as a machine [5.1] to [5.9]."""

import random
import unittest

from model import Maker, ModelMachine
from nightwatch.machines import Machine, might_of
from nightwatch.reader import read


def rows_of(*lines):
    """The rows of an errand; its first line being 1."""
    text = "errand main " + "\n" + "\n".join(lines) + "\nend"
    return minus_one(read(text)[0][3])


def minus_one(rows):
    """The same rows with each line one less, so that a row's line is its place among the lines told."""
    told = []
    for row in rows:
        fields = [minus_one(field) if isinstance(field, tuple) else field for field in row]
        fields[1] -= 1
        told.append(tuple(fields))
    return tuple(told)


def machine_of(*lines):
    return Machine(rows_of(*lines))


class MachineCase(unittest.TestCase):
    def steps(self, machine, *wants):
        """The machine does just these wants, one by one, and waits at none but the last."""
        for place, want in enumerate(wants):
            self.assertIsNone(machine.waiting())
            self.assertIsNone(machine.outcome())
            told = machine.step()
            self.assertEqual(told, want)
            self.assertIs(type(told), tuple)
        last = wants[-1]
        if last[0] in ("wait", "hear", "take", "ask", "join", "halt"):
            self.assertEqual(machine.waiting(), last)
        else:
            self.assertIsNone(machine.waiting())
        self.assertEqual(machine.outcome(), last[2] if last[0] == "ended" else None)

    def ends(self, machine, outcome):
        self.steps(machine, ("ended", 0, outcome))
        self.assertIsNone(machine.waiting())
        self.assertEqual(machine.might(), [])
        self.assertIs(machine.strikable(), False)

    def open_scopes(self, machine, scopes, target=None):
        self.assertEqual(machine.scopes(), scopes)
        self.assertIs(type(machine.scopes()), list)
        self.assertEqual(machine.target(), target)


class RowTests(MachineCase):
    def test_no_rows(self):
        self.ends(Machine(()), ("value", 0))

    def test_at_the_beginning(self):
        machine = machine_of("wait 3")
        self.open_scopes(machine, [0])
        self.assertIsNone(machine.waiting())
        self.assertIsNone(machine.outcome())
        self.assertIs(machine.strikable(), False)
        self.assertIs(machine.is_marked(0), False)

    def test_rows_that_are_done_at_once(self):
        machine = machine_of("ring gate", "send post 5", "let x 3", "send post x", "send post :x", "give 7")
        self.steps(machine, ("ring", 1, "gate"), ("send", 2, "post", 5), ("did", 3), ("send", 4, "post", 3),
                   ("send", 5, "post", ":x"), ("did", 6))
        self.ends(machine, ("value", 7))

    def test_values(self):
        machine = machine_of("send a x", "let x y", "send a x", "let x 999999", "let y x", "let x :w", "send a y",
                             "send a x", "let y x", "send a y", "give y")
        self.steps(machine, ("send", 1, "a", 0), ("did", 2), ("send", 3, "a", 0), ("did", 4), ("did", 5), ("did", 6),
                   ("send", 7, "a", 999999), ("send", 8, "a", ":w"), ("did", 9), ("send", 10, "a", ":w"), ("did", 11))
        self.ends(machine, ("value", ":w"))

    def test_what_is_given(self):
        for value, told in (("0", 0), ("999999", 999999), (":off", ":off"), ("x", 0)):
            machine = machine_of("give " + value)
            self.steps(machine, ("did", 1))
            self.ends(machine, ("value", told))
        machine = machine_of("give 1", "give 2")
        self.steps(machine, ("did", 1), ("did", 2))
        self.ends(machine, ("value", 2))

    def test_waiting_rows(self):
        machine = machine_of("wait 3", "hear gate", "take post x", "ask one y", "send a x", "send a y", "send a post",
                             "send a one")
        self.steps(machine, ("wait", 1, 3))
        self.assertIs(machine.strikable(), False)
        self.assertIsNone(machine.go())
        self.steps(machine, ("hear", 2, "gate"))
        machine.go()
        self.steps(machine, ("take", 3, "post", "x"))
        machine.go(5)
        self.steps(machine, ("ask", 4, "one", "y"))
        machine.go(":lost")
        self.steps(machine, ("send", 5, "a", 5), ("send", 6, "a", ":lost"), ("send", 7, "a", 0), ("send", 8, "a", 0))
        self.ends(machine, ("value", 0))

    def test_a_taken_number_and_word(self):
        for value in (0, 7, 999999, ":go"):
            machine = machine_of("let x 1", "take post x", "give x")
            self.steps(machine, ("did", 1), ("take", 2, "post", "x"))
            machine.go(value)
            self.steps(machine, ("did", 3))
            self.ends(machine, ("value", value))

    def test_a_when(self):
        for line, entered in (("when x 0", True), ("when x 1", False), ("when x x", True), ("when x y", True),
                              ("when z 5", True), ("when z x", False), ("when w :five", True), ("when w :six", False),
                              ("when w 5", False), ("when z :five", False), ("when w w", True), ("when x :x", False)):
            machine = machine_of("let z 5", "let w :five", line, "ring one", "end", "ring two")
            with self.subTest(line=line):
                self.steps(machine, ("did", 1), ("did", 2), ("did", 3))
                if entered:
                    self.steps(machine, ("ring", 4, "one"))
                self.steps(machine, ("ring", 6, "two"))
                self.ends(machine, ("value", 0))

    def test_blocks_with_no_rows(self):
        machine = machine_of("when x 0", "end", "repeat 9", "end", "keep", "end", "try", "but any", "ring a", "end",
                             "do", "last", "end", "limit 5", "late", "ring b", "end", "ring c")
        self.steps(machine, ("did", 1), ("did", 3), ("did", 5), ("did", 7), ("did", 11), ("clean", 11),
                   ("limit", 14, 1, 5), ("ring", 18, "c"))
        self.ends(machine, ("value", 0))

    def test_a_repeat(self):
        for many in (1, 2, 9):
            machine = machine_of(f"repeat {many}", "ring a", "ring b", "end", "ring c")
            self.steps(machine, ("did", 1), *([("ring", 2, "a"), ("ring", 3, "b")] * many), ("ring", 5, "c"))
            self.ends(machine, ("value", 0))

    def test_repeats_within_repeats(self):
        machine = machine_of("repeat 2", "repeat 3", "ring a", "end", "ring b", "end")
        once = [("did", 2)] + [("ring", 3, "a")] * 3 + [("ring", 5, "b")]
        self.steps(machine, ("did", 1), *(once * 2))
        self.ends(machine, ("value", 0))
        machine = machine_of("repeat 2", "repeat 3", "end", "end")
        self.steps(machine, ("did", 1), ("did", 2), ("did", 2))
        self.ends(machine, ("value", 0))

    def test_a_repeat_s_scopes(self):
        machine = machine_of("repeat 3", "limit 4", "ring a", "end", "end")
        self.steps(machine, ("did", 1), ("limit", 2, 1, 4), ("ring", 3, "a"), ("limit", 2, 2, 4), ("ring", 3, "a"),
                   ("limit", 2, 3, 4))
        self.open_scopes(machine, [0, 3])

    def test_a_try_and_a_do_without_a_signal(self):
        machine = machine_of("try", "ring a", "but any", "ring b", "end", "do", "ring c", "last", "ring d", "ring e",
                             "end", "ring f")
        self.steps(machine, ("did", 1), ("ring", 2, "a"), ("did", 6), ("ring", 7, "c"), ("clean", 6), ("ring", 9, "d"),
                   ("ring", 10, "e"), ("ring", 12, "f"))
        self.ends(machine, ("value", 0))


class GroupTests(MachineCase):
    def test_join_and_left(self):
        machine = machine_of("group g", "ring a", "end", "ring b")
        self.steps(machine, ("group", 1, 1), ("ring", 2, "a"), ("join", 1, 1))
        self.open_scopes(machine, [0, 1])
        self.assertIsNone(machine.joined(()))
        self.open_scopes(machine, [0, 1])
        self.steps(machine, ("left", 1, 1))
        self.open_scopes(machine, [0])
        self.steps(machine, ("ring", 4, "b"))

    def test_a_join_with_faults(self):
        machine = machine_of("group g", "end", "ring b")
        self.steps(machine, ("group", 1, 1), ("join", 1, 1))
        machine.joined(("lost", "torn"))
        self.steps(machine, ("left", 1, 1))
        self.ends(machine, ("faults", ("lost", "torn")))

    def test_begin_and_off(self):
        machine = machine_of("group g", "begin one run in g", "begin two run in g within 9", "group k",
                             "begin one run in g", "begin one walk in k", "off g", "off k", "off one", "end", "off g",
                             "off k", "end")
        self.steps(machine, ("group", 1, 1), ("begin", 2, "one", "run", 1, 0), ("begin", 3, "two", "run", 1, 9),
                   ("group", 4, 2), ("begin", 5, "one", "run", 1, 0), ("begin", 6, "one", "walk", 2, 0), ("off", 7, 1),
                   ("off", 8, 2), ("off", 9, "one"), ("join", 4, 2))
        machine.joined(())
        self.steps(machine, ("left", 4, 2), ("off", 11, 1), ("off", 12, "k"), ("join", 1, 1))

    def test_the_innermost_group_of_a_name(self):
        inner = ("group", 2, "g", (("begin", 3, "one", "run", "g", 0), ("off", 4, "g")))
        machine = Machine((("group", 1, "g", (inner, ("begin", 5, "one", "run", "g", 3), ("off", 6, "g"))),
                           ("off", 7, "g")))
        self.steps(machine, ("group", 1, 1), ("group", 2, 2), ("begin", 3, "one", "run", 2, 0), ("off", 4, 2),
                   ("join", 2, 2))
        machine.joined(())
        self.steps(machine, ("left", 2, 2), ("begin", 5, "one", "run", 1, 3), ("off", 6, 1), ("join", 1, 1))
        machine.joined(())
        self.steps(machine, ("left", 1, 1), ("off", 7, "g"))

    def test_groups_side_by_side_have_other_scopes(self):
        machine = machine_of("group g", "end", "group g", "begin one run in g", "end")
        self.steps(machine, ("group", 1, 1), ("join", 1, 1))
        machine.joined(())
        self.steps(machine, ("left", 1, 1), ("group", 3, 2), ("begin", 4, "one", "run", 2, 0))
        self.open_scopes(machine, [0, 2])

    def test_key_words_as_names(self):
        machine = Machine((("ring", 1, "end"), ("let", 2, "any", 4), ("send", 3, "off", "any"), ("raise", 4, "any")))
        self.steps(machine, ("ring", 1, "end"), ("did", 2), ("send", 3, "off", 4), ("raise", 4, "any"))
        self.ends(machine, ("faults", ("any",)))


class ScopeTests(MachineCase):
    def test_scopes_are_counted_from_one_on(self):
        machine = machine_of("limit 3", "group g", "limit 4", "when x 0", "wait 1", "end", "end", "end", "end")
        self.open_scopes(machine, [0])
        self.steps(machine, ("limit", 1, 1, 3))
        self.open_scopes(machine, [0, 1])
        self.steps(machine, ("group", 2, 2), ("limit", 3, 3, 4), ("did", 4), ("wait", 5, 1))
        self.open_scopes(machine, [0, 1, 2, 3])
        machine.go()
        self.open_scopes(machine, [0, 1, 2, 3])
        self.steps(machine, ("join", 2, 2))
        self.open_scopes(machine, [0, 1, 2])
        machine.joined(())
        self.steps(machine, ("left", 2, 2))
        self.open_scopes(machine, [0, 1])

    def test_marks(self):
        machine = machine_of("limit 3", "limit 4", "wait 1", "end", "ring a", "end", "ring b")
        self.steps(machine, ("limit", 1, 1, 3))
        self.assertIsNone(machine.mark(2, "late"))
        self.assertIsNone(machine.mark(1, "late"))
        machine.mark(9, "off")
        self.assertEqual([machine.is_marked(scope) for scope in (0, 1, 2, 9)], [False, True, False, False])
        self.open_scopes(machine, [0, 1], 1)
        self.steps(machine, ("limit", 2, 2, 4))
        self.assertIs(machine.is_marked(2), False)
        machine.mark(2, "late")
        self.assertIs(machine.is_marked(2), True)
        self.open_scopes(machine, [0, 1, 2], 1)
        machine.mark(0, "off")
        self.open_scopes(machine, [0, 1, 2], 0)

    def test_the_first_mark_counts(self):
        for first, second in (("off", "late"), ("late", "off")):
            machine = machine_of("wait 1")
            machine.mark(0, first)
            machine.mark(0, second)
            self.ends(machine, (first,))

    def test_a_mark_is_gone_with_its_scope(self):
        machine = machine_of("repeat 2", "limit 3", "ring a", "end", "end", "wait 1")
        self.steps(machine, ("did", 1), ("limit", 2, 1, 3), ("ring", 3, "a"))
        machine.mark(1, "late")
        self.open_scopes(machine, [0, 1], 1)
        self.steps(machine, ("limit", 2, 2, 3))
        self.assertEqual((machine.is_marked(1), machine.is_marked(2)), (False, False))
        self.open_scopes(machine, [0, 2])
        machine.mark(2, "late")
        self.steps(machine, ("ring", 3, "a"), ("wait", 6, 1))
        self.open_scopes(machine, [0])

    def test_a_keep_hides_the_scopes_round_it(self):
        machine = machine_of("limit 3", "keep", "limit 4", "wait 1", "end", "wait 2", "end", "wait 3", "end")
        self.steps(machine, ("limit", 1, 1, 3), ("did", 2))
        machine.mark(0, "off")
        machine.mark(1, "late")
        self.open_scopes(machine, [0, 1])
        self.assertEqual((machine.is_marked(0), machine.is_marked(1)), (True, True))
        self.steps(machine, ("limit", 3, 2, 4), ("wait", 4, 1))
        self.assertIs(machine.strikable(), False)
        machine.mark(2, "late")
        self.open_scopes(machine, [0, 1, 2], 2)
        self.assertIs(machine.strikable(), True)
        machine.strike()
        self.steps(machine, ("late", 3, 2), ("wait", 6, 2))
        self.assertIs(machine.strikable(), False)
        machine.go()
        self.ends(machine, ("off",))

    def test_a_keep_in_a_keep(self):
        machine = machine_of("keep", "limit 3", "keep", "limit 4", "ring a", "end", "ring b", "end", "ring c", "end",
                             "end")
        self.steps(machine, ("did", 1), ("limit", 2, 1, 3), ("did", 3), ("limit", 4, 2, 4), ("ring", 5, "a"))
        for scope in (0, 1, 2):
            machine.mark(scope, "late")
        self.open_scopes(machine, [0, 1, 2], 2)
        self.steps(machine, ("ring", 7, "b"))
        self.open_scopes(machine, [0, 1])
        self.steps(machine, ("ring", 9, "c"))
        self.open_scopes(machine, [0, 1], 1)

    def test_a_clean_up_hides_and_its_own_rows_do_not(self):
        machine = machine_of("do", "ring a", "last", "wait 1", "repeat 2", "wait 2", "end", "end", "wait 3")
        machine.mark(0, "off")
        self.steps(machine, ("did", 1))
        self.open_scopes(machine, [0], 0)
        self.steps(machine, ("ring", 2, "a"), ("clean", 1))
        self.open_scopes(machine, [0])
        self.steps(machine, ("wait", 4, 1))
        self.assertIs(machine.strikable(), False)
        machine.go()
        self.steps(machine, ("did", 5), ("wait", 6, 2))
        machine.go()
        self.steps(machine, ("wait", 6, 2))
        machine.go()
        self.ends(machine, ("off",))


class StrikeTests(MachineCase):
    def test_each_waiting_row_is_struck_in_its_own_step(self):
        for line in ("wait 1", "hear a", "take a x", "ask one x"):
            machine = machine_of("ring a", "let x 1", line, "ring b")
            machine.mark(0, "off")
            self.steps(machine, ("ring", 1, "a"), ("did", 2))
            self.ends(machine, ("off",))

    def test_other_rows_are_not(self):
        machine = machine_of("ring a", "send a 1", "let x 1", "when x 1", "end", "repeat 1", "end", "keep", "end",
                             "try", "but any", "end", "limit 3", "end", "off one", "do", "last", "end", "give 4")
        machine.mark(0, "late")
        self.steps(machine, ("ring", 1, "a"), ("send", 2, "a", 1), ("did", 3), ("did", 4), ("did", 6), ("did", 8),
                   ("did", 10), ("limit", 13, 1, 3), ("off", 15, "one"), ("did", 16), ("clean", 16), ("did", 19))
        self.ends(machine, ("value", 4))

    def test_one_that_waits(self):
        for word in ("off", "late"):
            machine = machine_of("wait 5", "ring a")
            self.steps(machine, ("wait", 1, 5))
            machine.mark(0, word)
            self.assertIs(machine.strikable(), True)
            self.assertEqual(machine.waiting(), ("wait", 1, 5))
            self.assertIsNone(machine.strike())
            self.assertIsNone(machine.waiting())
            self.assertIs(machine.strikable(), False)
            self.ends(machine, (word,))

    def test_the_target_is_that_of_the_next_step(self):
        machine = machine_of("limit 3", "limit 4", "wait 5", "late", "ring a", "end", "late", "ring b", "end")
        self.steps(machine, ("limit", 1, 1, 3), ("limit", 2, 2, 4), ("wait", 3, 5))
        machine.mark(2, "late")
        machine.strike()
        machine.mark(1, "late")
        self.steps(machine, ("late", 1, 1), ("ring", 8, "b"))
        self.ends(machine, ("value", 0))

    def test_one_that_has_gone_on_is_not_struck(self):
        machine = machine_of("limit 3", "wait 5", "end", "ring a")
        self.steps(machine, ("limit", 1, 1, 3), ("wait", 2, 5))
        machine.go()
        machine.mark(1, "late")
        self.assertIs(machine.strikable(), False)
        self.steps(machine, ("ring", 4, "a"))

    def test_a_limit_s_late_rows(self):
        machine = machine_of("limit 3", "when x 0", "wait 5", "end", "ring a", "late", "ring b", "wait 6", "end",
                             "ring c")
        self.steps(machine, ("limit", 1, 1, 3), ("did", 2), ("wait", 3, 5))
        machine.mark(1, "late")
        machine.strike()
        self.steps(machine, ("late", 1, 1))
        self.open_scopes(machine, [0])
        self.steps(machine, ("ring", 7, "b"), ("wait", 8, 6))
        machine.mark(1, "late")
        self.assertIs(machine.strikable(), False)
        machine.go()
        self.steps(machine, ("ring", 10, "c"))

    def test_a_limit_without_late_rows(self):
        machine = machine_of("limit 3", "wait 5", "ring a", "end", "ring c")
        self.steps(machine, ("limit", 1, 1, 3), ("wait", 2, 5))
        machine.mark(1, "late")
        machine.strike()
        self.steps(machine, ("late", 1, 1), ("ring", 5, "c"))

    def test_a_limit_with_a_strike_at_another_scope(self):
        machine = machine_of("limit 3", "limit 4", "wait 5", "late", "ring a", "end", "late", "ring b", "end")
        self.steps(machine, ("limit", 1, 1, 3), ("limit", 2, 2, 4), ("wait", 3, 5))
        machine.mark(1, "late")
        machine.strike()
        self.steps(machine, ("late", 1, 1))
        self.open_scopes(machine, [0])
        self.steps(machine, ("ring", 8, "b"))

    def test_late_rows_are_struck_by_outer_scopes(self):
        machine = machine_of("limit 3", "limit 4", "wait 5", "late", "ring a", "wait 6", "end", "late", "ring b", "end")
        self.steps(machine, ("limit", 1, 1, 3), ("limit", 2, 2, 4), ("wait", 3, 5))
        machine.mark(2, "late")
        machine.strike()
        self.steps(machine, ("late", 2, 2))
        machine.mark(1, "late")
        self.steps(machine, ("ring", 5, "a"), ("late", 1, 1), ("ring", 9, "b"))

    def test_tries_do_not_catch_it(self):
        machine = machine_of("try", "wait 1", "but any", "ring a", "end")
        self.steps(machine, ("did", 1), ("wait", 2, 1))
        machine.mark(0, "off")
        machine.strike()
        self.ends(machine, ("off",))

    def test_clean_ups_on_the_way_the_inner_one_first(self):
        machine = machine_of("limit 9", "do", "do", "wait 1", "last", "ring a", "wait 2", "end", "last", "ring b",
                             "end", "late", "ring c", "end")
        self.steps(machine, ("limit", 1, 1, 9), ("did", 2), ("did", 3), ("wait", 4, 1))
        machine.mark(1, "late")
        machine.strike()
        self.steps(machine, ("clean", 3), ("ring", 6, "a"), ("wait", 7, 2))
        self.assertIs(machine.strikable(), False)
        machine.mark(0, "off")
        self.assertIs(machine.strikable(), False)
        machine.go()
        self.steps(machine, ("clean", 2), ("ring", 10, "b"), ("late", 1, 1), ("ring", 13, "c"))
        self.ends(machine, ("value", 0))

    def test_a_clean_up_without_rows_on_the_way(self):
        machine = machine_of("do", "do", "wait 1", "last", "end", "last", "end")
        self.steps(machine, ("did", 1), ("did", 2), ("wait", 3, 1))
        machine.mark(0, "off")
        machine.strike()
        self.steps(machine, ("clean", 2), ("clean", 1))
        self.ends(machine, ("off",))

    def test_the_end_of_a_group_s_rows(self):
        machine = machine_of("group g", "ring a", "end", "ring b")
        self.steps(machine, ("group", 1, 1), ("ring", 2, "a"))
        machine.mark(1, "off")
        self.steps(machine, ("halt", 1, 1, ()))
        machine.joined(())
        self.steps(machine, ("left", 1, 1), ("ring", 4, "b"))

    def test_one_that_waits_at_a_join(self):
        machine = machine_of("group g", "end", "ring b")
        self.steps(machine, ("group", 1, 1), ("join", 1, 1))
        machine.mark(1, "off")
        self.assertIs(machine.strikable(), True)
        machine.strike()
        self.steps(machine, ("halt", 1, 1, ()))
        self.assertIs(machine.strikable(), False)
        machine.joined(())
        self.steps(machine, ("left", 1, 1), ("ring", 3, "b"))

    def test_a_halt_is_never_struck_and_holds_a_strike(self):
        machine = machine_of("group g", "wait 1", "ring a", "end", "ring b", "wait 2")
        self.steps(machine, ("group", 1, 1), ("wait", 2, 1))
        machine.mark(0, "off")
        machine.strike()
        self.steps(machine, ("halt", 1, 1, ()))
        machine.mark(1, "off")
        self.assertIs(machine.strikable(), False)
        self.assertEqual(machine.waiting(), ("halt", 1, 1, ()))
        machine.joined(())
        self.steps(machine, ("left", 1, 1))
        self.ends(machine, ("off",))

    def test_a_strike_at_the_group_itself_is_at_its_end(self):
        machine = machine_of("group g", "limit 2", "wait 1", "end", "ring a", "end", "ring b", "wait 2")
        self.steps(machine, ("group", 1, 1), ("limit", 2, 2, 2), ("wait", 3, 1))
        machine.mark(1, "off")
        machine.strike()
        self.steps(machine, ("halt", 1, 1, ()))
        machine.mark(0, "late")
        machine.joined(())
        self.steps(machine, ("left", 1, 1), ("ring", 7, "b"))
        self.ends(machine, ("late",))

    def test_a_held_strike_goes_through_groups_and_clean_ups(self):
        machine = machine_of("group g", "do", "group h", "wait 1", "end", "last", "ring a", "end", "end", "ring b")
        self.steps(machine, ("group", 1, 1), ("did", 2), ("group", 3, 2), ("wait", 4, 1))
        machine.mark(1, "off")
        machine.strike()
        self.steps(machine, ("halt", 3, 2, ()))
        machine.mark(2, "off")
        machine.joined(())
        self.steps(machine, ("left", 3, 2), ("clean", 2), ("ring", 7, "a"), ("halt", 1, 1, ()))
        machine.joined(())
        self.steps(machine, ("left", 1, 1), ("ring", 10, "b"))
        self.ends(machine, ("value", 0))

    def test_a_held_strike_keeps_its_target(self):
        lines = ("limit 9", "limit 8", "do", "group g", "wait 1", "end", "last", "ring a", "end", "late", "ring b", "wait 2",
                 "end", "late", "ring c", "end")
        for place in ("halt", "clean"):
            machine = machine_of(*lines)
            self.steps(machine, ("limit", 1, 1, 9), ("limit", 2, 2, 8), ("did", 3), ("group", 4, 3), ("wait", 5, 1))
            machine.mark(2, "late")
            machine.strike()
            self.steps(machine, ("halt", 4, 3, ()))
            if place == "halt":
                machine.mark(1, "late")
            machine.joined(())
            self.steps(machine, ("left", 4, 3), ("clean", 3))
            machine.mark(1, "late")
            self.steps(machine, ("ring", 8, "a"), ("late", 2, 2), ("ring", 11, "b"), ("late", 1, 1), ("ring", 15, "c"))
            self.ends(machine, ("value", 0))

    def test_faults_take_the_place_of_a_held_strike_and_the_next_waiting_row_is_struck_again(self):
        machine = machine_of("limit 9", "try", "group g", "wait 1", "end", "but lost", "ring a", "wait 2", "end",
                             "late", "ring b", "end")
        self.steps(machine, ("limit", 1, 1, 9), ("did", 2), ("group", 3, 2), ("wait", 4, 1))
        machine.mark(1, "late")
        machine.strike()
        self.steps(machine, ("halt", 3, 2, ()))
        machine.joined(("lost", "torn"))
        self.steps(machine, ("left", 3, 2), ("caught", 2, ("lost", "torn")), ("ring", 7, "a"), ("late", 1, 1),
                   ("ring", 11, "b"))
        self.ends(machine, ("value", 0))

    def test_a_strike_goes_through_every_kind_of_block(self):
        machine = machine_of("limit 9", "limit 8", "keep", "end", "repeat 3", "when x 0", "try", "wait 1", "but any",
                             "ring a", "end", "end", "end", "late", "ring c", "end", "late", "ring b", "end")
        self.steps(machine, ("limit", 1, 1, 9), ("limit", 2, 2, 8), ("did", 3), ("did", 5), ("did", 6), ("did", 7),
                   ("wait", 8, 1))
        machine.mark(1, "late")
        machine.strike()
        self.steps(machine, ("late", 1, 1), ("ring", 18, "b"))

    def test_a_strike_at_a_scope_in_a_keep_leaves_that_alone(self):
        machine = machine_of("keep", "limit 3", "do", "wait 1", "last", "ring a", "end", "late", "ring b", "wait 2",
                             "end", "wait 3", "end", "wait 4")
        self.steps(machine, ("did", 1), ("limit", 2, 1, 3), ("did", 3), ("wait", 4, 1))
        machine.mark(0, "off")
        machine.mark(1, "late")
        machine.strike()
        self.steps(machine, ("clean", 3), ("ring", 6, "a"), ("late", 2, 1), ("ring", 9, "b"), ("wait", 10, 2))
        machine.go()
        self.steps(machine, ("wait", 12, 3))
        machine.go()
        self.ends(machine, ("off",))


class FaultTests(MachineCase):
    def test_none_catches_it(self):
        machine = machine_of("keep", "when x 0", "repeat 2", "limit 3", "raise lost", "ring a", "late", "ring b", "end",
                             "end", "end", "end")
        self.steps(machine, ("did", 1), ("did", 2), ("did", 3), ("limit", 4, 1, 3), ("raise", 5, "lost"))
        self.open_scopes(machine, [0, 1])
        self.ends(machine, ("faults", ("lost",)))

    def test_by_its_name_and_by_any(self):
        for name in ("lost", "any"):
            machine = machine_of("try", "ring a", "raise lost", "ring b", "but " + name, "ring c", "end", "ring d")
            self.steps(machine, ("did", 1), ("ring", 2, "a"), ("raise", 3, "lost"), ("caught", 1, ("lost",)),
                       ("ring", 6, "c"), ("ring", 8, "d"))
            self.ends(machine, ("value", 0))

    def test_by_another_name(self):
        machine = machine_of("try", "try", "raise lost", "but torn", "ring c", "end", "but lost", "ring d", "end")
        self.steps(machine, ("did", 1), ("did", 2), ("raise", 3, "lost"), ("caught", 1, ("lost",)), ("ring", 8, "d"))

    def test_the_first_of_several_counts(self):
        for faults, caught in ((("lost", "torn"), True), (("torn", "lost"), False), (("lost",), True)):
            machine = machine_of("try", "group g", "end", "but lost", "ring c", "end")
            self.steps(machine, ("did", 1), ("group", 2, 1), ("join", 2, 1))
            machine.joined(faults)
            self.steps(machine, ("left", 2, 1))
            if caught:
                self.steps(machine, ("caught", 1, faults), ("ring", 5, "c"))
            else:
                self.ends(machine, ("faults", faults))

    def test_one_raised_in_the_rows_behind_but(self):
        machine = machine_of("try", "try", "raise lost", "but any", "raise torn", "end", "but any", "end")
        self.steps(machine, ("did", 1), ("did", 2), ("raise", 3, "lost"), ("caught", 2, ("lost",)),
                   ("raise", 5, "torn"), ("caught", 1, ("torn",)))
        self.ends(machine, ("value", 0))
        machine = machine_of("try", "raise lost", "but any", "raise lost", "end")
        self.steps(machine, ("did", 1), ("raise", 2, "lost"), ("caught", 1, ("lost",)), ("raise", 4, "lost"))
        self.ends(machine, ("faults", ("lost",)))

    def test_a_limit_and_a_mark_do_not_catch_it(self):
        machine = machine_of("limit 3", "raise lost", "late", "ring a", "end")
        self.steps(machine, ("limit", 1, 1, 3), ("raise", 2, "lost"))
        machine.mark(1, "late")
        self.ends(machine, ("faults", ("lost",)))

    def test_a_marked_errand_ends_by_its_faults(self):
        machine = machine_of("raise lost")
        machine.mark(0, "off")
        self.steps(machine, ("raise", 1, "lost"))
        self.ends(machine, ("faults", ("lost",)))

    def test_clean_ups(self):
        machine = machine_of("try", "do", "do", "raise lost", "last", "wait 1", "end", "last", "ring b", "end",
                             "but any", "ring c", "end")
        self.steps(machine, ("did", 1), ("did", 2), ("did", 3), ("raise", 4, "lost"), ("clean", 3), ("wait", 6, 1))
        machine.mark(0, "off")
        self.assertIs(machine.strikable(), False)
        machine.go()
        self.steps(machine, ("clean", 2), ("ring", 9, "b"), ("caught", 1, ("lost",)), ("ring", 12, "c"))

    def test_a_group_halts(self):
        machine = machine_of("group g", "limit 3", "raise lost", "end", "ring a", "end", "ring b")
        self.steps(machine, ("group", 1, 1), ("limit", 2, 2, 3), ("raise", 3, "lost"), ("halt", 1, 1, ("lost",)))
        self.open_scopes(machine, [0, 1])
        machine.mark(1, "off")
        machine.mark(0, "off")
        self.assertIs(machine.strikable(), False)
        machine.joined(("torn", "lost"))
        self.assertIsNone(machine.waiting())
        self.steps(machine, ("left", 1, 1))
        self.open_scopes(machine, [0], 0)
        self.ends(machine, ("faults", ("torn", "lost")))

    def test_a_group_that_halts_with_faults_and_is_joined_with_none(self):
        machine = machine_of("group g", "raise lost", "end", "ring b")
        self.steps(machine, ("group", 1, 1), ("raise", 2, "lost"), ("halt", 1, 1, ("lost",)))
        machine.joined(())
        self.steps(machine, ("left", 1, 1), ("ring", 4, "b"))

    def test_several_faults_through_groups(self):
        machine = machine_of("group g", "group h", "end", "end")
        self.steps(machine, ("group", 1, 1), ("group", 2, 2), ("join", 2, 2))
        machine.joined(("lost", "torn", "lost"))
        self.steps(machine, ("left", 2, 2), ("halt", 1, 1, ("lost", "torn", "lost")))
        machine.joined(("lost", "torn", "lost"))
        self.steps(machine, ("left", 1, 1))
        self.ends(machine, ("faults", ("lost", "torn", "lost")))

    def test_one_raised_at_an_ask(self):
        machine = machine_of("let x 5", "try", "ask one x", "ring a", "but nobody", "give x", "end")
        self.steps(machine, ("did", 1), ("did", 2), ("ask", 3, "one", "x"))
        self.assertIsNone(machine.raised("nobody"))
        self.assertIsNone(machine.waiting())
        self.steps(machine, ("caught", 2, ("nobody",)), ("did", 6))
        self.ends(machine, ("value", 5))

    def test_a_raised_one_that_none_catches(self):
        machine = machine_of("ask one x", "ring a")
        self.steps(machine, ("ask", 1, "one", "x"))
        machine.raised("nobody")
        self.ends(machine, ("faults", ("nobody",)))


class MightTests(MachineCase):
    def test_at_the_beginning_and_behind_each_step(self):
        machine = machine_of("ring b", "send a 1", "group g", "begin one run in g", "end", "ring a", "ring a")
        self.assertEqual(machine.might(), [("begin", "run"), ("ring", "a"), ("ring", "b"), ("send", "a")])
        self.steps(machine, ("ring", 1, "b"))
        self.assertEqual(machine.might(), [("begin", "run"), ("ring", "a"), ("send", "a")])
        self.steps(machine, ("send", 2, "a", 1))
        self.assertEqual(machine.might(), [("begin", "run"), ("ring", "a")])
        self.steps(machine, ("group", 3, 1))
        self.assertEqual(machine.might(), [("begin", "run"), ("ring", "a")])
        self.steps(machine, ("begin", 4, "one", "run", 1, 0))
        self.assertEqual(machine.might(), [("ring", "a")])
        self.steps(machine, ("join", 3, 1))
        machine.joined(())
        self.steps(machine, ("left", 3, 1), ("ring", 6, "a"))
        self.assertEqual(machine.might(), [("ring", "a")])
        self.steps(machine, ("ring", 7, "a"))
        self.assertEqual(machine.might(), [])
        self.ends(machine, ("value", 0))

    def test_all_that_stands_in_rows(self):
        machine = machine_of("wait 1", "when x 5", "repeat 1", "keep", "try", "limit 3", "ring a", "late", "ring b",
                             "end", "but any", "ring c", "end", "do", "ring d", "last", "ring e", "end", "end", "end",
                             "end")
        told = [("ring", sign) for sign in "abcde"]
        self.assertEqual(machine.might(), told)
        self.steps(machine, ("wait", 1, 1))
        self.assertEqual(machine.might(), told)
        machine.go()
        self.steps(machine, ("did", 2))
        self.assertEqual(machine.might(), [])

    def test_a_repeat(self):
        machine = machine_of("repeat 2", "ring a", "ring b", "end")
        self.steps(machine, ("did", 1))
        self.assertEqual(machine.might(), [("ring", "a"), ("ring", "b")])
        self.steps(machine, ("ring", 2, "a"), ("ring", 3, "b"))
        self.assertEqual(machine.might(), [("ring", "a"), ("ring", "b")])
        self.steps(machine, ("ring", 2, "a"))
        self.assertEqual(machine.might(), [("ring", "b")])
        self.steps(machine, ("ring", 3, "b"))
        self.assertEqual(machine.might(), [])

    def test_a_try_a_do_and_a_limit_with_their_own_rows_and_the_others(self):
        machine = machine_of("try", "ring a", "raise lost", "but lost", "ring b", "ring c", "end")
        self.steps(machine, ("did", 1), ("ring", 2, "a"))
        self.assertEqual(machine.might(), [("ring", "b"), ("ring", "c")])
        self.steps(machine, ("raise", 3, "lost"))
        self.assertEqual(machine.might(), [("ring", "b"), ("ring", "c")])
        self.steps(machine, ("caught", 1, ("lost",)))
        self.assertEqual(machine.might(), [("ring", "b"), ("ring", "c")])
        self.steps(machine, ("ring", 5, "b"))
        self.assertEqual(machine.might(), [("ring", "c")])
        machine = machine_of("do", "ring a", "last", "ring b", "ring c", "end")
        self.steps(machine, ("did", 1), ("ring", 2, "a"))
        self.assertEqual(machine.might(), [("ring", "b"), ("ring", "c")])
        self.steps(machine, ("clean", 1), ("ring", 4, "b"))
        self.assertEqual(machine.might(), [("ring", "c")])
        machine = machine_of("limit 3", "wait 1", "ring a", "late", "ring b", "ring c", "end")
        self.steps(machine, ("limit", 1, 1, 3), ("wait", 2, 1))
        self.assertEqual(machine.might(), [("ring", "a"), ("ring", "b"), ("ring", "c")])
        machine.mark(1, "late")
        machine.strike()
        self.assertEqual(machine.might(), [("ring", "a"), ("ring", "b"), ("ring", "c")])
        self.steps(machine, ("late", 1, 1), ("ring", 5, "b"))
        self.assertEqual(machine.might(), [("ring", "c")])

    def test_whatever_signal_is_on_its_way(self):
        machine = machine_of("keep", "raise lost", "ring a", "end", "send a 1")
        self.steps(machine, ("did", 1), ("raise", 2, "lost"))
        self.assertEqual(machine.might(), [("ring", "a"), ("send", "a")])

    def test_a_halted_group(self):
        machine = machine_of("group g", "wait 1", "ring a", "end", "ring b")
        self.steps(machine, ("group", 1, 1), ("wait", 2, 1))
        machine.mark(1, "off")
        machine.strike()
        self.assertEqual(machine.might(), [("ring", "a"), ("ring", "b")])
        self.steps(machine, ("halt", 1, 1, ()))
        self.assertEqual(machine.might(), [("ring", "b")])
        machine.joined(())
        self.assertEqual(machine.might(), [("ring", "b")])

    def test_a_list_that_was_told_and_changed(self):
        machine = machine_of("ring a", "ring b")
        for told in (machine.might(), machine.scopes()):
            told.clear()
        self.assertEqual(machine.might(), [("ring", "a"), ("ring", "b")])
        self.assertEqual(machine.scopes(), [0])
        first = machine.might()
        machine.step()
        self.assertEqual(first, [("ring", "a"), ("ring", "b")])

    def test_might_of(self):
        rows = rows_of("ring b", "ring a", "wait 1", "group g", "begin one run in g", "send a 1", "try", "ring b",
                       "but any", "begin two walk in g", "end", "end", "hear z", "take z z", "do", "ring d", "last",
                       "send q x", "end", "limit 3", "ring e", "late", "ring f", "end")
        told = [("ring", "b"), ("ring", "a"), ("begin", "run"), ("send", "a"), ("ring", "b"), ("begin", "walk"),
                ("ring", "d"), ("send", "q"), ("ring", "e"), ("ring", "f")]
        self.assertEqual(might_of(rows), told)
        self.assertEqual(might_of(list(rows)), told)
        self.assertIs(type(might_of(rows)), list)
        self.assertEqual(might_of(()), [])
        self.assertEqual(might_of([]), [])
        self.assertEqual(might_of(rows[:1]), [("ring", "b")])


class AloneTests(MachineCase):
    def test_two_side_by_side(self):
        rows = rows_of("let x 5", "limit 3", "wait 1", "end", "give x")
        one, two = Machine(rows), Machine(rows)
        self.steps(one, ("did", 1), ("limit", 2, 1, 3), ("wait", 3, 1))
        one.mark(1, "late")
        self.steps(two, ("did", 1), ("limit", 2, 1, 3), ("wait", 3, 1))
        self.assertEqual((one.strikable(), two.strikable()), (True, False))
        two.go()
        self.steps(two, ("did", 5))
        self.ends(two, ("value", 5))
        self.assertEqual(one.waiting(), ("wait", 3, 1))


# Machines beside another way of doing the same rows: all that they tell is the same behind each step.
class MadeTests(MachineCase):
    def alike(self, machine, other):
        self.assertEqual(machine.waiting(), other.waiting())
        self.assertEqual(machine.outcome(), other.outcome())
        self.assertEqual(machine.strikable(), other.strikable())
        self.assertEqual(machine.might(), other.might())
        if machine.outcome() is None:
            self.assertEqual(machine.target(), other.target())
            self.assertEqual(machine.scopes(), other.scopes())
            for scope in range(6):
                self.assertEqual(machine.is_marked(scope), other.is_marked(scope))

    def told_to(self, chance, both):
        """Tells both the same, if they wait: something that they may be told then."""
        want = both[0].waiting()
        if both[0].strikable() and chance.randint(0, 3):
            told = lambda machine: machine.strike()
        elif want[0] in ("join", "halt"):
            faults = chance.choice(((), (), ("lost",), ("torn", "lost")))
            told = lambda machine: machine.joined(faults)
        elif want[0] == "ask" and chance.randint(0, 2) == 0:
            told = lambda machine: machine.raised("nobody")
        else:
            value = chance.choice((0, 1, ":go"))
            told = lambda machine: machine.go(value if want[0] in ("take", "ask") else None)
        for machine in both:
            self.assertIsNone(told(machine))

    def whole_errand(self, chance, rows, marks):
        both = (Machine(rows), ModelMachine(rows))
        wants = []
        while both[0].outcome() is None:
            self.alike(*both)
            while chance.randint(0, 19) < marks:
                scopes = both[0].scopes()
                scope, word = chance.choice(scopes[-1:] * 6 + scopes + [9]), chance.choice(("off", "late"))
                for machine in both:
                    self.assertIsNone(machine.mark(scope, word))
                self.alike(*both)
            if both[0].waiting() is not None:
                self.told_to(chance, both)
            else:
                wants.append(both[0].step())
                self.assertEqual(wants[-1], both[1].step())
        self.alike(*both)
        return wants

    def test_made_errands(self):
        maker, chance, words = Maker(5), random.Random(6), {}
        for number in range(900):
            rows = read("\n".join(maker.errand("main", ["run", "walk"])))[0][3]
            with self.subTest(number=number):
                for want in self.whole_errand(chance, rows, chance.choice((0, 1, 4))):
                    words[want[0]] = words.get(want[0], 0) + 1
        for word in ("did", "clean", "ring", "send", "raise", "begin", "off", "group", "join", "left", "late", "limit",
                     "wait", "hear", "take", "ask", "halt", "caught", "ended"):
            self.assertGreater(words.get(word, 0), 20, word)


if __name__ == "__main__":
    unittest.main()
