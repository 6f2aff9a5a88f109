"""Groups of errands [6.1] to [6.6]."""

import random
import unittest

from nightwatch.errors import Over, WatchError
from nightwatch.groups import Groups

VALUE, OFF, LATE = ("value", 7), ("off",), ("late",)


class GroupCase(unittest.TestCase):
    def refuses(self, groups, deed, told):
        """The deed is refused, and all that told asks is answered as it was."""
        before = told(groups)
        with self.assertRaises(Over) as caught:
            deed()
        self.assertIsInstance(caught.exception, WatchError)
        self.assertEqual(told(groups), before)

    def made(self, *whos):
        """One group of owner 0, its scope 1, with these errands under the label one."""
        groups = Groups()
        groups.open_group(0, 1)
        for who in whos:
            groups.put_in(0, 1, "one", who)
        return groups


class OpenTests(GroupCase):
    def test_a_new_group(self):
        groups = Groups()
        self.assertIsNone(groups.open_group(0, 1))
        self.assertIs(groups.is_off(0, 1), False)
        self.assertEqual(groups.alive(0, 1), [])
        self.assertEqual(groups.faults_of(0, 1), ())
        self.assertIs(type(groups.alive(0, 1)), list)
        self.assertIs(type(groups.faults_of(0, 1)), tuple)
        self.assertIsNone(groups.newest(0, "one"))

    def test_put_in(self):
        groups = self.made()
        self.assertIs(groups.put_in(0, 1, "one", 2), False)
        self.assertIs(groups.put_in(0, 1, "two", 1), False)
        self.assertEqual(groups.alive(0, 1), [1, 2])
        self.assertEqual((groups.home_of(1), groups.home_of(2)), ((0, 1), (0, 1)))
        self.assertEqual((groups.result_of(1), groups.result_of(2)), (None, None))

    def test_put_into_one_that_is_called_off(self):
        groups = self.made()
        groups.call_off(0, 1)
        self.assertIs(groups.put_in(0, 1, "one", 1), True)
        self.assertEqual(groups.alive(0, 1), [1])
        self.assertIs(groups.is_off(0, 1), True)

    def test_several_groups(self):
        groups = Groups()
        for owner, scope in ((0, 1), (0, 2), (3, 1)):
            groups.open_group(owner, scope)
        groups.put_in(0, 2, "one", 3)
        groups.put_in(0, 1, "one", 4)
        groups.put_in(3, 1, "one", 5)
        self.assertEqual([groups.alive(0, 1), groups.alive(0, 2), groups.alive(3, 1)], [[4], [3], [5]])
        self.assertEqual([groups.home_of(who) for who in (3, 4, 5)], [(0, 2), (0, 1), (3, 1)])
        groups.call_off(0, 2)
        self.assertEqual([groups.is_off(0, 1), groups.is_off(0, 2), groups.is_off(3, 1)], [False, True, False])


class OffTests(GroupCase):
    def test_as_it_is_told_so(self):
        groups = self.made(5, 2, 9)
        self.assertEqual(groups.call_off(0, 1), [(0, 1, "off"), (2, 0, "off"), (5, 0, "off"), (9, 0, "off")])
        self.assertIs(groups.is_off(0, 1), True)
        self.assertEqual(groups.call_off(0, 1), [])
        self.assertEqual(groups.faults_of(0, 1), ())

    def test_those_that_are_alive_alone(self):
        groups = self.made(1, 2, 3)
        groups.ended(2, VALUE)
        self.assertEqual(groups.call_off(0, 1), [(0, 1, "off"), (1, 0, "off"), (3, 0, "off")])
        groups = self.made(1)
        groups.ended(1, VALUE)
        self.assertEqual(groups.call_off(0, 1), [(0, 1, "off")])
        self.assertEqual(self.made().call_off(0, 1), [(0, 1, "off")])

    def test_by_the_owner_s_faults(self):
        for faults in ((), ("lost",), ("lost", "torn")):
            groups = self.made(2, 1)
            self.assertEqual(groups.note(0, 1, faults), [(0, 1, "off"), (1, 0, "off"), (2, 0, "off")])
            self.assertEqual(groups.faults_of(0, 1), faults)
            self.assertIs(groups.is_off(0, 1), True)
            self.assertEqual(groups.note(0, 1, ("last",)), [])
            self.assertEqual(groups.faults_of(0, 1), faults + ("last",))

    def test_by_an_end_with_faults(self):
        groups = self.made(2, 1, 3)
        self.assertEqual(groups.ended(2, ("faults", ("lost", "torn"))), [(0, 1, "off"), (1, 0, "off"), (3, 0, "off")])
        self.assertEqual(groups.faults_of(0, 1), ("lost", "torn"))
        self.assertIs(groups.is_off(0, 1), True)
        self.assertEqual(groups.ended(1, ("faults", ("lost",))), [])
        self.assertEqual(groups.faults_of(0, 1), ("lost", "torn", "lost"))

    def test_other_ends_call_nothing_off(self):
        for outcome in (VALUE, ("value", ":lost"), OFF, LATE):
            groups = self.made(1, 2)
            self.assertEqual(groups.ended(1, outcome), [])
            self.assertIs(groups.is_off(0, 1), False)
            self.assertEqual(groups.faults_of(0, 1), ())
            self.assertEqual(groups.alive(0, 1), [2])
            self.assertEqual(groups.result_of(1), outcome)

    def test_all_that_comes_behind_a_calling_off(self):
        groups = self.made(1, 2, 3)
        groups.call_off(0, 1)
        self.assertEqual(groups.ended(1, ("faults", ("lost",))), [])
        self.assertEqual(groups.note(0, 1, ()), [])
        self.assertEqual(groups.note(0, 1, ("torn",)), [])
        self.assertEqual(groups.ended(2, OFF), [])
        self.assertEqual(groups.faults_of(0, 1), ("lost", "torn"))
        self.assertEqual(groups.alive(0, 1), [3])

    def test_faults_in_the_order_in_which_they_came(self):
        groups = self.made(1, 2, 3)
        groups.ended(3, ("faults", ("c", "b")))
        groups.note(0, 1, ("z",))
        groups.ended(1, ("faults", ("a",)))
        self.assertEqual(groups.faults_of(0, 1), ("c", "b", "z", "a"))

    def test_inner_groups_are_not_called_off_by_it(self):
        groups = self.made(1)
        groups.open_group(1, 1)
        groups.put_in(1, 1, "x", 2)
        self.assertEqual(groups.call_off(0, 1), [(0, 1, "off"), (1, 0, "off")])
        self.assertIs(groups.is_off(1, 1), False)


class NewestTests(GroupCase):
    def test_the_one_that_was_put_last(self):
        groups = self.made(5)
        self.assertEqual(groups.newest(0, "one"), 5)
        groups.put_in(0, 1, "one", 2)
        self.assertEqual(groups.newest(0, "one"), 2)
        groups.put_in(0, 1, "two", 9)
        self.assertEqual((groups.newest(0, "one"), groups.newest(0, "two")), (2, 9))
        self.assertIsNone(groups.newest(0, "three"))
        self.assertIsNone(groups.newest(1, "one"))

    def test_alive_or_not(self):
        groups = self.made(1, 2)
        groups.ended(2, VALUE)
        self.assertEqual(groups.newest(0, "one"), 2)

    def test_groups_in_one_another(self):
        groups = self.made(1)
        groups.open_group(0, 2)
        groups.put_in(0, 2, "one", 2)
        self.assertEqual(groups.newest(0, "one"), 2)
        groups.put_in(0, 1, "one", 3)
        self.assertEqual(groups.newest(0, "one"), 3)
        groups.ended(2, VALUE)
        groups.close(0, 2)
        self.assertEqual(groups.newest(0, "one"), 3)

    def test_back_to_an_earlier_one_when_a_group_is_closed(self):
        groups = self.made(1)
        groups.open_group(0, 2)
        groups.put_in(0, 2, "one", 2)
        groups.ended(2, VALUE)
        groups.close(0, 2)
        self.assertEqual(groups.newest(0, "one"), 1)
        groups.ended(1, VALUE)
        groups.close(0, 1)
        self.assertIsNone(groups.newest(0, "one"))

    def test_one_behind_the_other(self):
        groups = self.made(1)
        groups.ended(1, VALUE)
        groups.close(0, 1)
        groups.open_group(0, 2)
        self.assertIsNone(groups.newest(0, "one"))
        groups.put_in(0, 2, "one", 2)
        self.assertEqual(groups.newest(0, "one"), 2)

    def test_of_its_owner_alone(self):
        groups = self.made(1)
        groups.open_group(1, 1)
        groups.put_in(1, 1, "one", 2)
        self.assertEqual((groups.newest(0, "one"), groups.newest(1, "one"), groups.newest(2, "one")), (1, 2, None))

    def test_results_are_kept_till_the_group_is_closed(self):
        for outcome in (VALUE, ("value", ":x"), ("faults", ("a", "b")), OFF, LATE):
            groups = self.made(1, 2)
            groups.ended(1, outcome)
            self.assertEqual(groups.result_of(1), outcome)
            groups.ended(2, VALUE)
            self.assertEqual(groups.result_of(1), outcome)
            self.assertEqual(groups.home_of(1), (0, 1))
            self.assertIsNone(groups.close(0, 1))
            self.refuses(groups, lambda: groups.result_of(1), lambda told: told.tree(0))


class TreeTests(GroupCase):
    def test_none(self):
        self.assertEqual(Groups().tree(0), (0, ()))
        self.assertEqual(Groups().tree(7), (7, ()))

    def test_groups_by_scopes_and_errands_by_numbers(self):
        groups = Groups()
        for scope in (3, 1, 2):
            groups.open_group(0, scope)
        for scope, who in ((3, 9), (3, 4), (1, 2), (1, 10)):
            groups.put_in(0, scope, "x", who)
        groups.call_off(0, 2)
        told = (0, ((1, False, ((2, ()), (10, ()))), (2, True, ()), (3, False, ((4, ()), (9, ())))))
        self.assertEqual(groups.tree(0), told)
        self.assertEqual(groups.tree(4), (4, ()))

    def test_groups_in_one_another(self):
        groups = self.made(1, 2)
        groups.open_group(1, 1)
        groups.open_group(2, 4)
        groups.put_in(1, 1, "x", 3)
        groups.open_group(3, 1)
        groups.put_in(3, 1, "x", 8)
        groups.put_in(3, 1, "x", 5)
        groups.call_off(3, 1)
        three = (3, ((1, True, ((5, ()), (8, ()))),))
        self.assertEqual(groups.tree(0), (0, ((1, False, ((1, ((1, False, (three,)),)), (2, ((4, False, ()),)))),)))
        self.assertEqual(groups.tree(3), three)
        self.assertEqual(groups.tree(2), (2, ((4, False, ()),)))
        groups.ended(8, VALUE)
        self.assertEqual(groups.tree(3), (3, ((1, True, ((5, ()),)),)))

    def test_ended_ones_and_closed_ones_are_not_there(self):
        groups = self.made(1, 2)
        groups.ended(1, OFF)
        self.assertEqual(groups.tree(0), (0, ((1, False, ((2, ()),)),)))
        groups.ended(2, OFF)
        self.assertEqual(groups.tree(0), (0, ((1, False, ()),)))
        groups.close(0, 1)
        self.assertEqual(groups.tree(0), (0, ()))

    def test_a_tree_is_of_tuples_and_truths(self):
        who, rows = self.made(1).tree(0)
        self.assertIs(type(rows), tuple)
        self.assertIs(type(rows[0]), tuple)
        self.assertIs(rows[0][1], False)
        self.assertIs(type(rows[0][2]), tuple)

    def test_a_long_chain(self):
        groups, told = Groups(), (99, ())
        for who in range(99):
            groups.open_group(who, 1)
            groups.put_in(who, 1, "x", who + 1)
        for who in range(98, -1, -1):
            told = (who, ((1, False, (told,)),))
        self.assertEqual(groups.tree(0), told)


class RefusedTests(GroupCase):
    def all_told(self, groups):
        return groups.tree(0), groups.alive(0, 1), groups.faults_of(0, 1), groups.is_off(0, 1), groups.newest(0, "one")

    def refuse(self, groups, *deeds):
        for deed in deeds:
            self.refuses(groups, deed, self.all_told)

    def test_a_group_that_is_not_open(self):
        groups = self.made(1)
        groups.open_group(0, 3)
        groups.close(0, 3)
        for owner, scope in ((0, 2), (1, 1), (0, 3), (1, 0)):
            self.refuse(groups, lambda: groups.put_in(owner, scope, "one", 7),
                        lambda: groups.note(owner, scope, ("lost",)), lambda: groups.call_off(owner, scope),
                        lambda: groups.is_off(owner, scope), lambda: groups.alive(owner, scope),
                        lambda: groups.faults_of(owner, scope), lambda: groups.close(owner, scope))
        self.assertIs(groups.put_in(0, 1, "one", 7), False)

    def test_to_open_one_that_was_open_ever(self):
        groups = self.made(1)
        groups.note(0, 1, ("lost",))
        self.refuse(groups, lambda: groups.open_group(0, 1))
        groups.open_group(0, 2)
        groups.close(0, 2)
        self.refuse(groups, lambda: groups.open_group(0, 2))
        self.refuse(groups, lambda: groups.is_off(0, 2))
        groups.open_group(1, 2)

    def test_to_put_in_one_that_was_put_in_ever(self):
        groups = self.made(1, 2)
        groups.open_group(0, 2)
        self.refuse(groups, lambda: groups.put_in(0, 1, "one", 1), lambda: groups.put_in(0, 2, "two", 1))
        groups.ended(1, VALUE)
        self.refuse(groups, lambda: groups.put_in(0, 1, "one", 1), lambda: groups.put_in(0, 2, "one", 1))
        groups.put_in(0, 2, "one", 3)
        groups.ended(3, VALUE)
        groups.close(0, 2)
        self.refuse(groups, lambda: groups.put_in(0, 1, "one", 3))
        self.assertEqual(groups.result_of(1), VALUE)
        self.assertEqual(groups.home_of(1), (0, 1))

    def test_to_put_in_one_that_is_not_above_its_owner(self):
        groups = self.made(5)
        groups.open_group(5, 1)
        for who in (5, 4, 1, 0):
            self.refuse(groups, lambda: groups.put_in(5, 1, "one", who))
        self.refuse(groups, lambda: groups.put_in(0, 1, "one", 0))
        self.assertIs(groups.put_in(5, 1, "one", 6), False)
        self.assertIs(groups.put_in(0, 1, "one", 4), False)

    def test_an_end_of_one_that_is_not_alive(self):
        groups = self.made(1, 2)
        groups.ended(1, VALUE)
        for outcome in (VALUE, OFF, ("faults", ("lost",))):
            self.refuse(groups, lambda: groups.ended(1, outcome), lambda: groups.ended(0, outcome),
                        lambda: groups.ended(9, outcome))
        self.assertEqual(groups.result_of(1), VALUE)
        groups.open_group(0, 2)
        groups.put_in(0, 2, "one", 3)
        groups.ended(3, VALUE)
        groups.close(0, 2)
        self.refuse(groups, lambda: groups.ended(3, VALUE))

    def test_to_close_one_in_which_an_errand_is_alive(self):
        groups = self.made(1, 2)
        self.refuse(groups, lambda: groups.close(0, 1))
        groups.ended(1, VALUE)
        groups.call_off(0, 1)
        self.refuse(groups, lambda: groups.close(0, 1))
        groups.ended(2, OFF)
        self.assertIsNone(groups.close(0, 1))
        with self.assertRaises(Over):
            groups.close(0, 1)

    def test_the_result_and_the_home_of_one_in_no_open_group(self):
        groups = self.made(1)
        groups.open_group(0, 2)
        groups.put_in(0, 2, "one", 2)
        groups.ended(2, VALUE)
        groups.close(0, 2)
        for who in (0, 2, 9):
            self.refuse(groups, lambda: groups.result_of(who), lambda: groups.home_of(who))


class OwnTests(GroupCase):
    def test_lists_that_were_told_and_changed(self):
        groups = self.made(1, 2)
        groups.alive(0, 1).clear()
        groups.call_off(0, 1).clear()
        self.assertEqual(groups.alive(0, 1), [1, 2])
        groups.ended(1, VALUE).append(5)
        groups.note(0, 1, ()).append(5)
        self.assertEqual(groups.note(0, 1, ()), [])
        first = groups.alive(0, 1)
        groups.put_in(0, 1, "one", 3)
        self.assertEqual(first, [2])

    def test_two_side_by_side(self):
        one, two = self.made(1), Groups()
        self.assertEqual(two.tree(0), (0, ()))
        two.open_group(0, 1)
        two.put_in(0, 1, "one", 1)
        one.call_off(0, 1)
        one.ended(1, VALUE)
        self.assertEqual((two.is_off(0, 1), two.alive(0, 1)), (False, [1]))


# A plain row of all deeds that were not refused; each answer is found anew from it.
class Told:
    def __init__(self):
        self.deeds = []

    def is_open(self, owner, scope):
        return ("open", owner, scope) in self.deeds and ("close", owner, scope) not in self.deeds

    def home(self, who):
        homes = [deed[1:3] for deed in self.deeds if deed[0] == "put" and deed[4] == who]
        return homes[0] if homes else None

    def result(self, who):
        ends = [deed[2] for deed in self.deeds if deed[0] == "end" and deed[1] == who]
        return ends[0] if ends else None

    def put(self, owner, scope):
        return [deed[4] for deed in self.deeds if deed[0] == "put" and deed[1:3] == (owner, scope)]

    def alive(self, owner, scope):
        return sorted([who for who in self.put(owner, scope) if self.result(who) is None])

    def faults(self, owner, scope):
        told = ()
        for deed in self.deeds:
            if deed[:3] == ("note", owner, scope):
                told += deed[3]
            if deed[0] == "end" and deed[2][0] == "faults" and self.home(deed[1]) == (owner, scope):
                told += deed[2][1]
        return told

    def off(self, owner, scope):
        ends = [deed for deed in self.deeds if deed[0] == "end" and deed[2][0] == "faults"]
        return bool([deed for deed in self.deeds if deed[0] in ("note", "off") and deed[1:3] == (owner, scope)]
                    or [deed for deed in ends if self.home(deed[1]) == (owner, scope)])

    def newest(self, owner, label):
        told = [deed for deed in self.deeds if deed[0] == "put" and deed[1] == owner and deed[3] == label]
        told = [deed[4] for deed in told if self.is_open(owner, deed[2])]
        return told[-1] if told else None

    def tree(self, who):
        scopes = [scope for scope in range(9) if self.is_open(who, scope)]
        return (who, tuple([(scope, self.off(who, scope), tuple([self.tree(one) for one in self.alive(who, scope)]))
                            for scope in scopes]))

    def marks(self, owner, scope, before):
        if before or not self.off(owner, scope):
            return []
        return [(owner, scope, "off")] + [(who, 0, "off") for who in self.alive(owner, scope)]


class MadeTests(GroupCase):
    def one_deed(self, chance, groups, told):
        """A deed, whether it is refused, and what it answers else."""
        owner, scope, who = chance.randint(0, 4), chance.randint(1, 2), chance.randint(0, 12)
        label, faults = chance.choice(("one", "two")), chance.choice(((), ("lost",), ("torn", "lost")))
        outcome = chance.choice((VALUE, OFF, LATE, ("faults", ("lost",)), ("faults", ("a", "b"))))
        is_open, off = told.is_open(owner, scope), told.off(owner, scope)
        kind = chance.choice(("open", "open", "put", "put", "put", "put", "note", "off", "end", "end", "end", "close"))
        if kind == "open":
            deed, right = lambda: groups.open_group(owner, scope), ("open", owner, scope) not in told.deeds
            row = ("open", owner, scope)
        elif kind == "put":
            deed, row = lambda: groups.put_in(owner, scope, label, who), ("put", owner, scope, label, who)
            right = is_open and told.home(who) is None and who > owner
        elif kind == "note":
            deed, row, right = lambda: groups.note(owner, scope, faults), ("note", owner, scope, faults), is_open
        elif kind == "off":
            deed, row, right = lambda: groups.call_off(owner, scope), ("off", owner, scope), is_open
        elif kind == "end":
            home = told.home(who)
            owner, scope = home if home else (owner, scope)
            off = told.off(owner, scope)
            deed, row = lambda: groups.ended(who, outcome), ("end", who, outcome)
            right = home is not None and told.is_open(*home) and told.result(who) is None
        else:
            deed, row = lambda: groups.close(owner, scope), ("close", owner, scope)
            right = is_open and told.alive(owner, scope) == []
        if not right:
            with self.assertRaises(Over):
                deed()
            return
        answer = deed()
        told.deeds.append(row)
        if kind in ("note", "off", "end"):
            self.assertEqual(answer, told.marks(owner, scope, off))
        else:
            self.assertIs(answer, off if kind == "put" else None)

    def alike(self, groups, told):
        for owner in range(5):
            self.assertEqual(groups.tree(owner), told.tree(owner))
            for label in ("one", "two"):
                self.assertEqual(groups.newest(owner, label), told.newest(owner, label))
            for scope in (1, 2):
                if told.is_open(owner, scope):
                    self.assertEqual(groups.is_off(owner, scope), told.off(owner, scope))
                    self.assertEqual(groups.alive(owner, scope), told.alive(owner, scope))
                    self.assertEqual(groups.faults_of(owner, scope), told.faults(owner, scope))
        for who in range(13):
            home = told.home(who)
            if home is not None and told.is_open(*home):
                self.assertEqual(groups.home_of(who), home)
                self.assertEqual(groups.result_of(who), told.result(who))
            else:
                for deed in (groups.home_of, groups.result_of):
                    with self.assertRaises(Over):
                        deed(who)

    def test_made_rows_of_deeds(self):
        chance = random.Random(66)
        for number in range(40):
            groups, told = Groups(), Told()
            for deed in range(60):
                self.one_deed(chance, groups, told)
                self.alike(groups, told)


if __name__ == "__main__":
    unittest.main()
