"""The greatest set of those who wait for one another, and the round in it [7.7]."""

import itertools
import random
import unittest

from nightwatch.knots import greatest, round_in


class KnotCase(unittest.TestCase):
    def knot(self, waits, members, way):
        """The same in any order of the dict, and the dict and its lists stay."""
        for keys in list(itertools.permutations(waits))[:30]:
            told = {key: list(waits[key]) for key in keys}
            with self.subTest(waits=told):
                self.assertEqual(greatest(told), members)
                self.assertEqual(round_in(told, members), way)
                self.assertEqual(greatest(told), members)
                self.assertEqual(list(told.items()), [(key, waits[key]) for key in keys])


class GreatestTests(KnotCase):
    def test_none(self):
        self.knot({}, [], [])
        self.assertIs(type(greatest({})), list)
        self.assertIs(type(round_in({}, [])), list)

    def test_one_with_none_to_serve(self):
        self.knot({3: []}, [], [])
        self.knot({3: [], 1: []}, [], [])

    def test_one_that_waits_for_itself(self):
        self.knot({0: [0]}, [0], [0])
        self.knot({5: [5], 2: []}, [5], [5])

    def test_circles(self):
        self.knot({1: [2], 2: [1]}, [1, 2], [1, 2])
        self.knot({1: [3], 3: [2], 2: [1]}, [1, 2, 3], [1, 3, 2])
        self.knot({0: [1], 1: [0], 2: [3], 3: [2]}, [0, 1, 2, 3], [0, 1])

    def test_chains_into_a_circle(self):
        self.knot({0: [4], 4: [2], 2: [3], 3: [2]}, [0, 2, 3, 4], [2, 3])
        self.knot({0: [1], 1: [1]}, [0, 1], [1])
        self.knot({0: [3], 1: [2], 2: [1], 3: [2]}, [0, 1, 2, 3], [2, 1])

    def test_one_with_none_to_serve_takes_the_chain_with_it(self):
        self.knot({0: [1], 1: [2], 2: []}, [], [])
        self.knot({0: [1], 1: [2], 2: [3], 3: [], 5: [5]}, [5], [5])
        self.knot({0: [1, 2], 1: [0], 2: []}, [], [])
        self.knot({3: [2], 2: [1], 1: [0], 0: []}, [], [])

    def test_others_beyond_the_dict(self):
        self.knot({0: [9]}, [], [])
        self.knot({0: [1, 9], 1: [0]}, [], [])
        self.knot({0: [1], 1: [0], 2: [9, 0]}, [0, 1], [0, 1])

    def test_several_that_might_serve(self):
        self.knot({0: [2, 1], 1: [0], 2: [0]}, [0, 1, 2], [0, 1])
        self.knot({0: [2], 1: [0], 2: [1, 2]}, [0, 1, 2], [0, 2, 1])
        self.knot({0: [2], 1: [0], 2: [2, 3], 3: [0]}, [0, 1, 2, 3], [2])

    def test_one_twice_in_a_list(self):
        self.knot({0: [1, 1], 1: [0, 0, 1]}, [0, 1], [0, 1])
        self.knot({0: [9, 9], 1: [1, 1]}, [1], [1])

    def test_great_numbers(self):
        self.knot({99: [100], 100: [99], 7: [100]}, [7, 99, 100], [99, 100][::-1])


class RoundTests(KnotCase):
    def test_it_begins_where_one_comes_again(self):
        self.assertEqual(round_in({0: [5], 5: [3], 3: [5]}, [0, 3, 5]), [5, 3])
        self.assertEqual(round_in({0: [5], 5: [3], 3: [0]}, [0, 3, 5]), [0, 5, 3])

    def test_from_the_least_of_the_members(self):
        waits = {4: [4], 1: [1], 2: [2]}
        self.assertEqual(round_in(waits, [1, 2, 4]), [1])
        self.assertEqual(round_in(waits, [2, 4]), [2])
        self.assertEqual(round_in(waits, [4]), [4])
        self.assertEqual(round_in(waits, []), [])

    def test_a_list_that_was_told_is_the_asker_s_own(self):
        waits, members = {0: [1], 1: [0]}, [0, 1]
        told = greatest(waits)
        told.clear()
        round_in(waits, members).clear()
        self.assertEqual((greatest(waits), round_in(waits, members), members), ([0, 1], [0, 1], [0, 1]))
        self.assertEqual(waits, {0: [1], 1: [0]})


class MadeTests(KnotCase):
    def largest_of_all(self, waits):
        """Of all sets the greatest one that keeps to the promise."""
        for many in range(len(waits), -1, -1):
            for some in itertools.combinations(sorted(waits), many):
                if all([waits[one] and set(waits[one]) <= set(some) for one in some]):
                    return list(some)

    def test_made_dicts(self):
        chance = random.Random(77)
        full = 0
        for number in range(500):
            numbers = chance.sample(range(9), chance.randint(0, 6))
            beyond = numbers + chance.choice(([], [], [20]))
            waits = {one: [chance.choice(beyond) for place in range(chance.choice((0, 1, 1, 1, 2, 3)))]
                     for one in numbers}
            members = self.largest_of_all(waits)
            way, one = [], min(members) if members else None
            while members and one not in way:
                way.append(one)
                one = sorted(waits[one])[0]
            full += members != []
            self.knot(waits, members, way[way.index(one):] if members else [])
        self.assertGreater(full, 50)


if __name__ == "__main__":
    unittest.main()
