"""Lines of who's at names, and bells that are heard and rung [3.4], [3.5]."""

import random
import unittest

from nightwatch.bells import Bells
from nightwatch.errors import NotWaiting, WatchError
from nightwatch.lines import Lines

NAMES = ("gate", "tower", "a", "abcdefgh")
WHO = (0, 1, 2, 3, 7, 50, 99)


class LineCase(unittest.TestCase):
    def stands(self, lines, told):
        """All that lines tell, by a dict from names to the lists of those that wait there."""
        for name in NAMES:
            self.assertEqual(lines.waiting(name), told.get(name, []))
            self.assertIs(type(lines.waiting(name)), list)
        for who in WHO:
            at = [name for name in told if who in told[name]]
            self.assertEqual(lines.waits_at(who), at[0] if at else None)
        self.assertEqual(lines.busy(), sorted([name for name in told if told[name]]))
        self.assertIs(type(lines.busy()), list)

    def refuses(self, lines, deed, told):
        with self.assertRaises(NotWaiting) as caught:
            deed()
        self.assertIsInstance(caught.exception, WatchError)
        self.stands(lines, told)


# What holds of Lines and of Bells alike; how a who comes is told by each of both.
class ComingTests(LineCase):
    def made(self):
        return Lines()

    def come(self, lines, name, who):
        return lines.come(name, who)

    def test_none(self):
        self.stands(self.made(), {})

    def test_one(self):
        lines = self.made()
        self.assertIsNone(self.come(lines, "gate", 0))
        self.stands(lines, {"gate": [0]})

    def test_several_at_one_name_as_they_came(self):
        lines = self.made()
        for who in (7, 0, 99, 2):
            self.come(lines, "gate", who)
        self.stands(lines, {"gate": [7, 0, 99, 2]})

    def test_several_at_several_names(self):
        lines = self.made()
        for name, who in (("tower", 3), ("gate", 2), ("tower", 1), ("a", 99), ("gate", 0)):
            self.come(lines, name, who)
        self.stands(lines, {"tower": [3, 1], "gate": [2, 0], "a": [99]})
        self.assertEqual(lines.busy(), ["a", "gate", "tower"])

    def test_one_that_waits_already(self):
        lines = self.made()
        told = {"gate": [1, 2], "a": [3]}
        for name, who in (("gate", 1), ("gate", 2), ("a", 3)):
            self.come(lines, name, who)
        for name, who in (("gate", 1), ("gate", 2), ("tower", 2), ("a", 1), ("gate", 3), ("a", 3)):
            self.refuses(lines, lambda: self.come(lines, name, who), told)

    def test_leave(self):
        lines = self.made()
        for name, who in (("gate", 1), ("gate", 2), ("a", 3), ("gate", 0)):
            self.come(lines, name, who)
        self.assertIsNone(lines.leave(2))
        self.stands(lines, {"gate": [1, 0], "a": [3]})
        lines.leave(3)
        self.stands(lines, {"gate": [1, 0]})
        lines.leave(1)
        lines.leave(0)
        self.stands(lines, {})

    def test_leave_of_one_that_does_not_wait(self):
        lines = self.made()
        self.refuses(lines, lambda: lines.leave(0), {})
        self.come(lines, "gate", 1)
        self.refuses(lines, lambda: lines.leave(0), {"gate": [1]})
        self.refuses(lines, lambda: lines.leave(2), {"gate": [1]})
        lines.leave(1)
        self.refuses(lines, lambda: lines.leave(1), {})

    def test_left_and_come_again(self):
        lines = self.made()
        for who in (1, 2, 3):
            self.come(lines, "gate", who)
        lines.leave(1)
        self.come(lines, "gate", 1)
        self.stands(lines, {"gate": [2, 3, 1]})
        lines.leave(2)
        self.come(lines, "tower", 2)
        self.stands(lines, {"gate": [3, 1], "tower": [2]})

    def test_lists_that_were_told_and_changed(self):
        lines = self.made()
        self.come(lines, "gate", 1)
        lines.waiting("gate").append(2)
        lines.waiting("gate").clear()
        lines.waiting("tower").append(3)
        lines.busy().append("tower")
        lines.busy().clear()
        self.stands(lines, {"gate": [1]})
        self.come(lines, "tower", 3)
        self.stands(lines, {"gate": [1], "tower": [3]})

    def test_lists_that_were_told_stay(self):
        lines = self.made()
        self.come(lines, "gate", 1)
        told, busy = lines.waiting("gate"), lines.busy()
        self.come(lines, "gate", 2)
        self.come(lines, "a", 3)
        lines.leave(1)
        self.assertEqual((told, busy), ([1], ["gate"]))

    def test_two_side_by_side(self):
        one, two = self.made(), self.made()
        self.come(one, "gate", 1)
        self.stands(two, {})
        self.come(two, "tower", 1)
        one.leave(1)
        self.stands(one, {})
        self.stands(two, {"tower": [1]})

    def test_made_rows_of_deeds(self):
        chance = random.Random(34)
        for number in range(30):
            lines, told = self.made(), {name: [] for name in NAMES}
            for deed in range(60):
                name, who = chance.choice(NAMES), chance.choice(WHO)
                at = [one for one in NAMES if who in told[one]]
                if chance.randint(0, 2):
                    if at:
                        self.refuses(lines, lambda: self.come(lines, name, who), told)
                    else:
                        self.come(lines, name, who)
                        told[name].append(who)
                elif at:
                    lines.leave(who)
                    told[at[0]].remove(who)
                else:
                    self.refuses(lines, lambda: lines.leave(who), told)
                self.stands(lines, told)


class HearingTests(ComingTests):
    def made(self):
        return Bells()

    def come(self, lines, name, who):
        return lines.hear(name, who)

    def test_they_are_lines(self):
        bells = Bells()
        self.assertIsInstance(bells, Lines)
        bells.come("gate", 2)
        bells.hear("gate", 1)
        self.stands(bells, {"gate": [2, 1]})
        self.refuses(bells, lambda: bells.hear("a", 2), {"gate": [2, 1]})
        self.refuses(bells, lambda: bells.come("a", 1), {"gate": [2, 1]})
        self.assertEqual(bells.ring("gate"), [2, 1])


class RingTests(LineCase):
    def test_nobody_hears(self):
        bells = Bells()
        self.assertEqual(bells.ring("gate"), [])
        self.stands(bells, {})
        bells.hear("gate", 1)
        self.assertEqual(bells.ring("tower"), [])
        self.stands(bells, {"gate": [1]})

    def test_all_that_hear_it_the_first_one_ahead(self):
        bells = Bells()
        for who in (7, 0, 99, 2):
            bells.hear("gate", who)
        bells.hear("tower", 1)
        told = bells.ring("gate")
        self.assertEqual(told, [7, 0, 99, 2])
        self.assertIs(type(told), list)
        self.stands(bells, {"tower": [1]})
        self.assertEqual(bells.ring("gate"), [])
        self.assertEqual(bells.ring("tower"), [1])
        self.stands(bells, {})

    def test_one_that_left_is_not_told(self):
        bells = Bells()
        for who in (1, 2, 3):
            bells.hear("gate", who)
        bells.leave(2)
        self.assertEqual(bells.ring("gate"), [1, 3])
        self.refuses(bells, lambda: bells.leave(1), {})

    def test_hearing_again_behind_a_ring(self):
        bells = Bells()
        bells.hear("gate", 1)
        bells.ring("gate")
        bells.hear("tower", 1)
        self.stands(bells, {"tower": [1]})
        self.assertEqual(bells.ring("gate"), [])
        self.assertEqual(bells.ring("tower"), [1])

    def test_a_told_list_is_the_asker_s_own(self):
        bells = Bells()
        bells.hear("gate", 1)
        told = bells.ring("gate")
        bells.hear("gate", 2)
        self.assertEqual(told, [1])
        told.append(9)
        self.stands(bells, {"gate": [2]})
        empty = bells.ring("a")
        empty.append(3)
        self.assertEqual(bells.ring("a"), [])

    def test_each_hearing_is_told_by_the_first_ring_behind_it(self):
        chance = random.Random(35)
        for number in range(40):
            bells, hearings, told = Bells(), [], {name: [] for name in NAMES}
            for deed in range(80):
                kind, name, who = chance.randint(0, 5), chance.choice(NAMES), chance.choice(WHO)
                open_ones = [one for one in hearings if one["who"] == who and one["state"] == "hears"]
                if kind < 3 and not open_ones:
                    bells.hear(name, who)
                    hearings.append({"who": who, "bell": name, "state": "hears"})
                elif kind == 3 and open_ones:
                    bells.leave(who)
                    open_ones[0]["state"] = "left"
                elif kind > 3:
                    heard = [one for one in hearings if one["bell"] == name and one["state"] == "hears"]
                    self.assertEqual(bells.ring(name), [one["who"] for one in heard])
                    for one in heard:
                        one["state"] = "told"
                for name in NAMES:
                    told[name] = [one["who"] for one in hearings if one["bell"] == name and one["state"] == "hears"]
                self.stands(bells, told)

    def test_two_side_by_side(self):
        one, two = Bells(), Bells()
        one.hear("gate", 1)
        two.hear("gate", 2)
        self.assertEqual(one.ring("gate"), [1])
        self.stands(two, {"gate": [2]})


if __name__ == "__main__":
    unittest.main()
