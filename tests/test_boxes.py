"""Letter boxes [4.1] to [4.4]."""

import random
import unittest

from nightwatch.boxes import Boxes
from nightwatch.errors import NotWaiting, WatchError

BOXES = ("post", "desk", "a", "abcdefgh")
WHO = (0, 1, 2, 3, 7, 99)
LETTERS = (0, 1, 999999, ":late", ":a", "word", "post")


class BoxCase(unittest.TestCase):
    def stands(self, boxes, letters, takers):
        """All that boxes tell, by dicts from boxes to the lists of their letters and of their takers."""
        for box in BOXES:
            self.assertEqual(boxes.letters(box), letters.get(box, []))
            self.assertEqual(boxes.waiting(box), takers.get(box, []))
            self.assertTrue(boxes.letters(box) == [] or boxes.waiting(box) == [])
            self.assertIs(type(boxes.letters(box)), list)
            self.assertIs(type(boxes.waiting(box)), list)
        for who in WHO:
            at = [box for box in takers if who in takers[box]]
            self.assertEqual(boxes.waits_at(who), at[0] if at else None)
        self.assertEqual(boxes.busy(), [box for box in sorted(BOXES) if letters.get(box) or takers.get(box)])
        self.assertIs(type(boxes.busy()), list)

    def refuses(self, boxes, deed, letters, takers):
        with self.assertRaises(NotWaiting) as caught:
            deed()
        self.assertIsInstance(caught.exception, WatchError)
        self.stands(boxes, letters, takers)


class SendTests(BoxCase):
    def test_none(self):
        self.stands(Boxes(), {}, {})

    def test_where_nobody_waits(self):
        boxes = Boxes()
        self.assertIsNone(boxes.send("post", 5))
        self.stands(boxes, {"post": [5]}, {})
        self.assertIsNone(boxes.send("post", ":late"))
        self.assertIsNone(boxes.send("desk", 5))
        self.assertIsNone(boxes.send("post", 5))
        self.stands(boxes, {"post": [5, ":late", 5], "desk": [5]}, {})

    def test_where_somebody_waits(self):
        boxes = Boxes()
        boxes.take("post", 0)
        told = boxes.send("post", 5)
        self.assertEqual(told, 0)
        self.assertIs(type(told), int)
        self.stands(boxes, {}, {})

    def test_the_first_of_the_line(self):
        boxes = Boxes()
        for who in (7, 0, 99):
            boxes.take("post", who)
        self.assertEqual(boxes.send("post", 1), 7)
        self.stands(boxes, {}, {"post": [0, 99]})
        self.assertEqual(boxes.send("post", 1), 0)
        self.assertEqual(boxes.send("post", 1), 99)
        self.assertIsNone(boxes.send("post", 1))
        self.stands(boxes, {"post": [1]}, {})

    def test_somebody_waits_at_another_box(self):
        boxes = Boxes()
        boxes.take("desk", 3)
        self.assertIsNone(boxes.send("post", 5))
        self.stands(boxes, {"post": [5]}, {"desk": [3]})
        self.assertEqual(boxes.busy(), ["desk", "post"])


class TakeTests(BoxCase):
    def test_without_letters(self):
        boxes = Boxes()
        told = boxes.take("post", 1)
        self.assertEqual(told, (False, None))
        self.assertIs(type(told), tuple)
        self.assertIs(told[0], False)
        self.stands(boxes, {}, {"post": [1]})
        self.assertEqual(boxes.take("post", 0), (False, None))
        self.assertEqual(boxes.take("desk", 7), (False, None))
        self.stands(boxes, {}, {"post": [1, 0], "desk": [7]})

    def test_with_letters(self):
        for letter in LETTERS:
            boxes = Boxes()
            boxes.send("post", letter)
            told = boxes.take("post", 1)
            self.assertEqual(told, (True, letter))
            self.assertIs(told[0], True)
            self.assertIs(type(told[1]), type(letter))
            self.stands(boxes, {}, {})

    def test_the_first_sent_first(self):
        boxes = Boxes()
        for letter in (3, ":b", 1, 3, ":b"):
            boxes.send("post", letter)
        self.assertEqual(boxes.take("post", 1), (True, 3))
        self.stands(boxes, {"post": [":b", 1, 3, ":b"]}, {})
        told = [boxes.take("post", 1), boxes.take("post", 2), boxes.take("post", 1), boxes.take("post", 0)]
        self.assertEqual(told, [(True, ":b"), (True, 1), (True, 3), (True, ":b")])
        self.assertEqual(boxes.take("post", 1), (False, None))
        self.stands(boxes, {}, {"post": [1]})

    def test_letters_of_another_box(self):
        boxes = Boxes()
        boxes.send("desk", 4)
        self.assertEqual(boxes.take("post", 1), (False, None))
        self.stands(boxes, {"desk": [4]}, {"post": [1]})

    def test_one_that_waits_already(self):
        boxes = Boxes()
        boxes.take("post", 1)
        boxes.take("post", 0)
        boxes.send("desk", 4)
        letters, takers = {"desk": [4]}, {"post": [1, 0]}
        for box, who in (("post", 1), ("post", 0), ("desk", 1), ("desk", 0), ("a", 0)):
            self.refuses(boxes, lambda: boxes.take(box, who), letters, takers)
        self.assertEqual(boxes.take("desk", 2), (True, 4))

    def test_served_ones_may_take_again(self):
        boxes = Boxes()
        boxes.take("post", 1)
        boxes.send("post", 5)
        self.assertEqual(boxes.take("post", 1), (False, None))
        self.stands(boxes, {}, {"post": [1]})


class LeaveTests(BoxCase):
    def test_one_that_waits(self):
        boxes = Boxes()
        for who in (1, 2, 0):
            boxes.take("post", who)
        self.assertIsNone(boxes.leave(2))
        self.stands(boxes, {}, {"post": [1, 0]})
        self.assertIsNone(boxes.leave(1))
        self.assertEqual(boxes.send("post", 5), 0)

    def test_the_last_one_of_a_line(self):
        boxes = Boxes()
        boxes.take("post", 1)
        boxes.leave(1)
        self.stands(boxes, {}, {})
        self.assertIsNone(boxes.send("post", 5))
        self.stands(boxes, {"post": [5]}, {})

    def test_one_that_does_not_wait(self):
        boxes = Boxes()
        self.refuses(boxes, lambda: boxes.leave(0), {}, {})
        boxes.take("post", 1)
        boxes.send("desk", 4)
        boxes.take("desk", 2)
        self.refuses(boxes, lambda: boxes.leave(2), {}, {"post": [1]})
        boxes.send("post", 4)
        self.refuses(boxes, lambda: boxes.leave(1), {}, {})

    def test_left_and_come_again(self):
        boxes = Boxes()
        boxes.take("post", 1)
        boxes.take("post", 2)
        boxes.leave(1)
        boxes.take("post", 1)
        self.stands(boxes, {}, {"post": [2, 1]})
        boxes.leave(2)
        boxes.take("desk", 2)
        self.stands(boxes, {}, {"post": [1], "desk": [2]})


class OwnTests(BoxCase):
    def test_lists_that_were_told_and_changed(self):
        boxes = Boxes()
        boxes.send("post", 1)
        boxes.take("desk", 2)
        for told in (boxes.letters("post"), boxes.letters("a"), boxes.waiting("desk"), boxes.waiting("a"), boxes.busy()):
            told.append(7)
        boxes.letters("post").clear()
        boxes.waiting("desk").clear()
        self.stands(boxes, {"post": [1]}, {"desk": [2]})
        self.assertEqual(boxes.take("a", 1), (False, None))

    def test_lists_that_were_told_stay(self):
        boxes = Boxes()
        boxes.send("post", 1)
        boxes.take("desk", 2)
        letters, takers, busy = boxes.letters("post"), boxes.waiting("desk"), boxes.busy()
        boxes.send("post", 3)
        boxes.take("desk", 3)
        boxes.take("post", 1)
        boxes.send("desk", 5)
        boxes.send("a", 5)
        self.assertEqual((letters, takers, busy), ([1], [2], ["desk", "post"]))

    def test_two_side_by_side(self):
        one, two = Boxes(), Boxes()
        one.send("post", 1)
        one.take("desk", 2)
        self.stands(two, {}, {})
        two.take("post", 2)
        self.stands(one, {"post": [1]}, {"desk": [2]})
        self.stands(two, {}, {"post": [2]})


class MadeTests(BoxCase):
    def one_deed(self, chance, boxes, letters, takers):
        kind, box, who = chance.randint(0, 4), chance.choice(BOXES), chance.choice(WHO)
        at = [one for one in BOXES if who in takers[one]]
        if kind < 2:
            letter = chance.choice(LETTERS)
            told = boxes.send(box, letter)
            self.assertEqual(told, takers[box].pop(0) if takers[box] else letters[box].append(letter))
        elif kind < 4 and at:
            self.refuses(boxes, lambda: boxes.take(box, who), letters, takers)
        elif kind < 4:
            if letters[box]:
                self.assertEqual(boxes.take(box, who), (True, letters[box].pop(0)))
            else:
                self.assertEqual(boxes.take(box, who), (False, None))
                takers[box].append(who)
        elif at:
            boxes.leave(who)
            takers[at[0]].remove(who)
        else:
            self.refuses(boxes, lambda: boxes.leave(who), letters, takers)

    def test_made_rows_of_deeds(self):
        chance = random.Random(44)
        for number in range(50):
            boxes, letters, takers = Boxes(), {box: [] for box in BOXES}, {box: [] for box in BOXES}
            for deed in range(80):
                self.one_deed(chance, boxes, letters, takers)
                self.stands(boxes, letters, takers)

    def test_letters_are_taken_in_order_and_each_at_most_once(self):
        chance = random.Random(45)
        for number in range(40):
            boxes, sent, taken, came, served = Boxes(), [], [], [], []
            for deed in range(100):
                kind, who = chance.randint(0, 4), chance.choice(WHO)
                if kind < 2:
                    # Each letter is another one, so that what was taken tells which it was.
                    sent.append(len(sent))
                    first = boxes.send("post", sent[-1])
                    if first is not None:
                        taken.append(sent[-1])
                        served.append(first)
                        self.assertEqual(first, came.pop(0))
                elif kind < 4 and who not in came:
                    told = boxes.take("post", who)
                    if told[0]:
                        taken.append(told[1])
                    else:
                        came.append(who)
                elif who in came:
                    boxes.leave(who)
                    came.remove(who)
                self.assertEqual(taken, sent[:len(taken)])
                self.assertEqual(boxes.letters("post"), sent[len(taken):])


if __name__ == "__main__":
    unittest.main()
