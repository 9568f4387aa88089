"""Points 80, 81, 84 and 85: a taking of a forest's items that is worth most, and its paper."""

import random
import unittest

from callmelt.bounds import shows
from callmelt.errors import BadItem
from callmelt.forests import ROOM, best
from tests.helper import (
    OTHER_THINGS, all_takings, grown_forests, grown_items, nested_lists, nested_tuples, shown, weight_of, worth_of,
)

GOOD = (None, 1, 1)


class TestBest(unittest.TestCase):
    def check(self, items, room, wanted=None):
        """What is told is a taking that fits, its worth, than which none has more, and a paper for it."""
        told = best(items, room=room)
        self.assertIsInstance(told, tuple)
        worth, taking, paper = told
        with self.subTest(f"{items} {room}"):
            takings = all_takings(items)
            self.assertIn(taking, takings)
            self.assertIsInstance(taking, list)
            self.assertLessEqual(weight_of(items, taking), room)
            self.assertEqual(worth_of(items, taking), worth)
            most = max(worth_of(items, one) for one in takings if weight_of(items, one) <= room)
            self.assertEqual(worth, most)
            self.assertIs(shows(items, room, worth, paper), True)
            if worth > 0:
                self.assertIs(shows(items, room, worth - 1, paper), False)
            if wanted is not None:
                self.assertEqual((worth, taking), wanted)
        return len(paper)

    def test_the_room(self):
        self.assertEqual(ROOM, 60)
        items = [(None, 9, 40), (None, 5, 21), (None, 4, 20)]
        self.assertEqual(best(items)[:2], (13, [0, 2]))
        self.assertEqual(best(items)[:2], best(items, room=60)[:2])
        self.assertEqual(best(items, room=61)[:2], (14, [0, 1]))

    def test_no_item(self):
        for room in [0, 1, 60, 1000]:
            self.check([], room, (0, []))

    def test_one_item(self):
        self.check([(None, 5, 3)], 3, (5, [0]))
        self.check([(None, 5, 3)], 2, (0, []))
        self.check([(None, 10 ** 9, 40)], 40, (10 ** 9, [0]))
        self.check([(None, 10 ** 9, 40)], 39, (0, []))

    def test_room_nought(self):
        self.check([(None, 5, 3), (None, 2, 0), (None, 1, 1)], 0, (2, [1]))
        self.check([(None, 5, 3), (None, 2, -2), (None, 1, 1)], 0, (3, [1, 2]))
        self.check([(None, 5, 3), (None, 2, -3), (None, 1, 1)], 0, (7, [0, 1]))
        self.check([(None, 5, 3)] * 10, 0, (0, []))

    def test_items_above(self):
        items = [(None, 0, 5), (0, 9, 5), (None, 6, 5), (1, 9, 5)]
        self.check(items, 5, (6, [2]))
        self.check(items, 10, (9, [0, 1]))
        self.check(items, 15, (18, [0, 1, 3]))
        self.check(items, 14, (9, [0, 1]))
        self.check(items, 20, (24, [0, 1, 2, 3]))

    def test_weights_below_nought(self):
        # What has no worth is taken for the room that it makes.
        items = [(None, 0, -10), (0, 0, -10), (1, 100, 19), (None, 100, 2)]
        self.assertEqual(best(items, room=0)[0], 100)
        self.check(items, 0)
        self.check(items, 1, (200, [0, 1, 2, 3]))
        self.check([(None, 0, -40)] * 9 + [(8, 10 ** 9, 40)], 0)

    def test_items_that_stand_above_many(self):
        items = [(None, 0, 30)] + [(0, worth, 7) for worth in [3, 1, 4, 1, 5, 9, 2, 6, 5]]
        for room in range(0, 101, 5):
            self.check(items, room)
        items = [(None, 1, 3)] + [(at, 2 ** at, 3) for at in range(9)]
        for room in range(0, 40):
            self.check(items, room)

    def test_ten_items(self):
        source = random.Random(85)
        for step in range(40):
            items = grown_items(source, 10)
            self.check(items, source.randrange(100))
        for items in [[GOOD] * 10, [(None, 0, 0)] * 10, [(None, 10 ** 9, 40)] * 10, [(None, 10 ** 9, -40)] * 10]:
            for room in [0, 3, 399, 400, 1000]:
                self.check(items, room)

    def test_where_no_rate_closes_much(self):
        # As much worth as weight, weights even and the room odd: whatever is taken, one of room is left over.
        for room in [1, 7, 19, 33, 57, 99]:
            self.check([(None, 2 * step, 2 * step) for step in range(1, 11)], room)
            self.check([(None, 8, 8)] * 10, room)

    def test_many_forests(self):
        few = 0
        for items, room in grown_forests(400, 81):
            few += self.check(items, room) < len(all_takings(items))
        self.assertGreater(few, 100)

    def test_what_is_told_is_the_askers_own(self):
        items = [(None, 5, 3), (None, 2, 0)]
        worth, taking, paper = best(items, room=3)
        self.assertEqual(items, [(None, 5, 3), (None, 2, 0)])
        again = best(items, room=3)
        taking.clear()
        paper.clear()
        items.clear()
        self.assertEqual(best([(None, 5, 3), (None, 2, 0)], room=3), again)

    def test_a_room_that_is_none(self):
        for room in [-1, -7, 1001, 10 ** 6]:
            for items in [[], [GOOD], [(None, 5, -3)], [(None, 5, -3), (0, 7, 1)]]:
                worth, taking, paper = best(items, room=room)
                self.assertEqual(worth_of(items, taking), worth)
                self.assertIs(shows(items, room, worth, paper), True)


class TestRefusals(unittest.TestCase):
    def refuse(self, items, at):
        for room in [0, 60]:
            with self.assertRaises(BadItem) as caught:
                best(items, room=room)
            self.assertEqual(caught.exception.at, at, shown(items))

    def test_no_list(self):
        for thing in OTHER_THINGS + [(GOOD,), {0: GOOD}, nested_tuples(200), 10 ** 5000]:
            if not isinstance(thing, list):
                self.refuse(thing, 0)

    def test_no_item(self):
        for thing in OTHER_THINGS + [(0, 1, 1), (None, -1, 1), (None, 10 ** 9 + 1, 1), (None, 1, 41), (None, 1, -41),
                                     (None, True, 1), (None, 1, True), (None, 1), [None, 1, 1], nested_lists(190)]:
            self.refuse([thing], 0)
            self.refuse([thing, GOOD, None], 0)
        for thing in OTHER_THINGS + [(2, 1, 1), (True, 1, 1), (-1, 1, 1), (10 ** 5000, 1, 1)]:
            self.refuse([GOOD, GOOD, thing, None], 2)

    def test_the_eleventh(self):
        self.refuse([GOOD] * 11, 10)
        self.refuse([GOOD] * 10 + [None], 10)
        self.refuse([GOOD] * 9 + [None] * 2, 9)
        self.refuse([GOOD] * 2000, 10)


if __name__ == "__main__":
    unittest.main()
