"""Points 80, 82, 83 and 84: items, leaves, their bounds, and papers."""

import random
import unittest

from callmelt.bounds import leaf_bound, shows
from callmelt.errors import BadItem
from tests.helper import (
    OTHER_THINGS, all_takings, grown_forests, nested_lists, nested_tuples, shown, weight_of, worth_of,
)

FLAT = [(None, 10, 5), (None, 6, 2), (None, 3, 4)]
# 0 stands above 1 and 2, 2 above 3; 4 stands alone.
TREE = [(None, 1, 10), (0, 8, 3), (0, 0, 2), (2, 20, 5), (None, 4, -3)]
GOOD = (None, 1, 1)
# Things that are no item, the first of a list at least.
NO_ITEMS = [
    (), (None,), (None, 1), (None, 1, 1, 1), [None, 1, 1], (0, 1, 1), (-1, 1, 1), (False, 1, 1), ("0", 1, 1), ((), 1, 1),
    (None, -1, 1), (None, 10 ** 9 + 1, 1), (None, True, 1), (None, None, 1), (None, "1", 1), (None, 10 ** 5000, 1),
    (None, 1, -41), (None, 1, 41), (None, 1, False), (None, 1, None), (None, 1, [1]), (None, 1, -10 ** 5000),
    ([], 1, 1), (None, [], 1), (None, (1,), 1), (10 ** 5000, 1, 1), nested_tuples(190), nested_lists(190), "110",
]


class TestItems(unittest.TestCase):
    def ways(self, items):
        """Each way in which items are handed in here."""
        return [lambda: leaf_bound(items, 60, ("", 0, 1)), lambda: shows(items, 60, 5, [("", 0, 1)])]

    def refuse(self, items, at):
        for ask in self.ways(items):
            with self.assertRaises(BadItem) as caught:
                ask()
            self.assertEqual(caught.exception.at, at, shown(items))

    def test_items(self):
        for items in [[], [GOOD] * 10, FLAT, TREE, [(None, 0, -40), (0, 10 ** 9, 40), (1, 10 ** 9, 0), (0, 0, 40)]]:
            for ask in self.ways(items):
                ask()

    def test_no_items(self):
        for thing in NO_ITEMS + OTHER_THINGS:
            self.refuse([thing], 0)
            self.refuse([GOOD, GOOD, thing if thing != (0, 1, 1) else (2, 1, 1), None], 2)

    def test_above_is_an_item_ahead(self):
        self.refuse([GOOD, (1, 1, 1)], 1)
        self.refuse([GOOD, (2, 1, 1), GOOD], 1)
        self.refuse([GOOD, (0, 1, 1), (True, 1, 1)], 2)
        self.refuse([GOOD, (0, 1, 1), (-1, 1, 1)], 2)
        self.refuse([(1, 1, 1), GOOD], 0)

    def test_the_eleventh(self):
        self.refuse([GOOD] * 11, 10)
        self.refuse([GOOD] * 10 + [None], 10)
        self.refuse([GOOD] * 9 + [None] * 2, 9)
        self.refuse([GOOD] * 2000, 10)

    def test_no_list(self):
        for thing in OTHER_THINGS + [(GOOD,), {0: GOOD}, nested_tuples(200), 10 ** 5000]:
            if not isinstance(thing, list):
                self.refuse(thing, 0)

    def test_items_ahead_of_the_paper(self):
        for paper in OTHER_THINGS:
            self.assertRaises(BadItem, shows, [None], 60, 5, paper)


class TestLeafBound(unittest.TestCase):
    def check(self, items, room, leaf, bound):
        self.assertEqual(leaf_bound(items, room, leaf), bound, leaf)

    def test_no_items(self):
        self.check([], 7, ("", 0, 1), 0)
        self.check([], 7, ("", 3, 2), 21)
        self.check([], 0, ("", 3, 2), 0)

    def test_nothing_decided(self):
        self.check(FLAT, 6, ("", 0, 1), 19)
        self.check(FLAT, 6, ("", 0, 5), 95)
        # 6 times the room; of the tops 10 - 5, 6 - 2 and, below nought, 3 - 4.
        self.check(FLAT, 6, ("", 1, 1), 6 + 5 + 4)
        self.check(FLAT, 6, ("", 2, 1), 12 + 0 + 2)
        self.check(FLAT, 6, ("", 5, 2), 30 + 0 + 2)
        self.check(FLAT, 6, ("", 10 ** 12, 1), 6 * 10 ** 12)

    def test_items_told_as_1_and_as_0(self):
        self.check(FLAT, 6, ("1", 1, 1), 10 + 1 + 4)
        self.check(FLAT, 6, ("0", 1, 1), 0 + 6 + 4)
        self.check(FLAT, 6, ("11", 1, 1), 16 - 1)
        self.check(FLAT, 6, ("11", 5, 1), 16 - 5)
        self.check(FLAT, 6, ("01", 0, 3), 18 + 9)
        self.check(FLAT, 6, ("111", 0, 1), 19)
        # What is told as 1 is counted, however much it is below nought.
        self.check(FLAT, 6, ("111", 10, 1), 19 - 50)
        self.check(FLAT, 6, ("000", 10, 1), 60)
        self.check(FLAT, 0, ("000", 10, 1), 0)

    def test_items_above_one_another(self):
        # Tops by rate 1: of 3 it is 15, of 2 13, of 1 5, of 0 9, of 4 7.
        self.check(TREE, 12, ("", 1, 1), 12 + 9 + 7)
        # Of 3 it is 10, of 2 6, of 1 2, of 0 nought (1 - 20 + 8), of 4 10.
        self.check(TREE, 12, ("", 2, 1), 24 + 0 + 10)
        self.check(TREE, 12, ("0", 1, 1), 12 + 7)
        self.check(TREE, 12, ("1", 1, 1), 1 + 2 + 5 + 13 + 7)
        self.check(TREE, 12, ("1", 2, 1), 1 + 4 + 2 + 6 + 10)
        self.check(TREE, 12, ("10", 2, 1), 1 + 4 + 6 + 10)
        self.check(TREE, 12, ("101", 2, 1), 1 + 0 + 10 + 10)
        self.check(TREE, 12, ("100", 2, 1), 1 + 4 + 10)
        self.check(TREE, 12, ("1011", 2, 1), 21 - 10 + 10)
        self.check(TREE, 12, ("10110", 2, 1), 21 - 10)
        self.check(TREE, 12, ("10111", 2, 1), 25 - 4)
        self.check(TREE, 12, ("00001", 2, 3), 12 + 30)

    def test_tops_below_nought_count_as_nought_at_each_step(self):
        # Of 2 it is below nought, so nought: 1 is not the less by it.
        items = [(None, 5, 1), (0, 5, 1), (1, 1, 9)]
        self.check(items, 0, ("", 1, 1), 4 + 4)
        # Of 1 it is below nought by itself, and more by the one under it.
        items = [(None, 5, 1), (0, 1, 9), (1, 10, 1)]
        self.check(items, 0, ("", 1, 1), 4 + (1 - 9 + 9))
        self.check(items, 0, ("", 2, 1), 3 + 0)

    def test_weights_below_nought(self):
        items = [(None, 0, -40), (0, 3, 40), (None, 0, -1)]
        self.check(items, 0, ("", 0, 1), 3)
        self.check(items, 0, ("", 1, 1), 40 + 0 + 1)
        self.check(items, 0, ("1", 1, 1), 40 + 0 + 1)
        self.check(items, 0, ("11", 1, 1), 3 + 0 + 1)
        self.check(items, 0, ("00", 2, 1), 2)

    def test_no_taking_that_agrees_and_fits_is_worth_more(self):
        source = random.Random(83)
        near = 0
        for items, room in grown_forests(150, 83):
            takings = [(taking, worth_of(items, taking)) for taking in all_takings(items)
                       if weight_of(items, taking) <= room]
            for step in range(10):
                taking = source.choice(all_takings(items))
                signs = "".join("1" if at in taking else "0" for at in range(len(items)))
                leaf = (signs[:source.randrange(len(items) + 1)], source.randrange(40), source.randrange(1, 12))
                bound = leaf_bound(items, room, leaf)
                agreeing = [worth for one, worth in takings if agrees(one, leaf[0])]
                self.assertTrue(all(worth * leaf[2] <= bound for worth in agreeing), (items, room, leaf))
                near += any(worth * leaf[2] == bound for worth in agreeing)
        self.assertGreater(near, 20)

    def test_as_told_word_by_word(self):
        source = random.Random(82)
        for items, room in grown_forests(150, 82):
            for taking in source.sample(all_takings(items), min(5, len(all_takings(items)))):
                signs = "".join("1" if at in taking else "0" for at in range(len(items)))
                leaf = (signs[:source.randrange(len(items) + 1)], source.randrange(10 ** 9), source.randrange(1, 80))
                self.check(items, room, leaf, bound_told(items, room, leaf))


def agrees(taking, decided):
    return all((at in taking) == (sign == "1") for at, sign in enumerate(decided))


def bound_told(items, room, leaf):
    """The bound as point 83 tells it, one thing after another."""
    decided, p, q = leaf
    ones = [at for at, sign in enumerate(decided) if sign == "1"]

    def free(at):
        above = items[at][0]
        return decided[at:at + 1] != "0" and (above is None or free(above))

    def top(at):
        under = [other for other in range(len(items)) if items[other][0] == at]
        return max(0, q * items[at][1] - p * items[at][2] + sum(top(other) for other in under))

    undecided = [at for at in range(len(decided), len(items)) if free(at)]
    first = [at for at in undecided if items[at][0] is None or items[at][0] < len(decided)]
    worths, weights = sum(items[at][1] for at in ones), sum(items[at][2] for at in ones)
    return q * worths + p * (room - weights) + sum(top(at) for at in first)


class TestShows(unittest.TestCase):
    def check(self, wanted, items, room, worth, paper):
        self.assertIs(shows(items, room, worth, paper), wanted, shown(paper))

    def test_no_items(self):
        self.check(True, [], 7, 0, [("", 0, 1)])
        self.check(True, [], 7, 5, [("", 5, 7)])
        self.check(False, [], 7, 4, [("", 5, 7)])
        self.check(False, [], 7, 0, [("", 1, 1)])
        self.check(False, [], 7, 0, [])
        self.check(False, [], 7, 0, [("", 0, 1), ("", 0, 1)])
        self.check(False, [], 7, 0, [("0", 0, 1)])

    def test_one_leaf(self):
        # The best that fits 6 is 10, of item 0 alone; the tops by the rate 2 come to 14.
        self.check(True, FLAT, 6, 19, [("", 0, 1)])
        self.check(False, FLAT, 6, 18, [("", 0, 1)])
        self.check(True, FLAT, 6, 14, [("", 2, 1)])
        self.check(False, FLAT, 6, 13, [("", 2, 1)])
        # Less than q times one more: 32 by 2 is 16, and 31 would not be.
        self.check(True, FLAT, 6, 16, [("", 5, 2)])
        self.check(False, FLAT, 6, 15, [("", 5, 2)])
        self.check(False, FLAT, 6, 10, [("", 2, 1)])

    PAPER = [("0", 0, 1), ("10", 5, 1), ("11", 6, 1)]

    def test_leaves_that_part_all_takings(self):
        # By "0" 9 at most; by "10" 10 + 5 at rate 5, or 10 + 3 at rate 0; by "11" 16 - 6.
        self.check(False, FLAT, 6, 10, self.PAPER)
        self.check(True, FLAT, 6, 15, self.PAPER)
        best = [("0", 0, 1), ("100", 0, 1), ("101", 3, 1), ("11", 6, 1)]
        self.check(True, FLAT, 6, 10, best)
        self.check(False, FLAT, 6, 9, best)
        for order in [best[::-1], best[2:] + best[:2]]:
            self.check(True, FLAT, 6, 10, order)

    def test_a_leaf_that_does_not_close(self):
        self.check(False, FLAT, 6, 10, [("0", 0, 1), ("100", 0, 1), ("101", 0, 1), ("11", 6, 1)])
        self.check(False, FLAT, 6, 10, [("0", 0, 1), ("100", 1, 1), ("101", 3, 1), ("11", 6, 1)])
        self.check(True, FLAT, 6, 10, [("0", 0, 1), ("100", 1, 2), ("101", 3, 1), ("11", 6, 1)])

    def test_a_leaf_out_one_more_and_one_twice(self):
        for items, room, worth, paper in papers(84):
            self.check(True, items, room, worth, paper)
            for at in range(len(paper)):
                self.check(False, items, room, worth, paper[:at] + paper[at + 1:])
                self.check(False, items, room, worth, paper + [paper[at]])
                self.check(False, items, room, worth, paper + [(paper[at][0], 0, 1)])
                self.check(False, items, room, worth, paper + [(paper[at][0][:-1], 0, 1)])
                self.check(False, items, room, worth, paper + [(paper[at][0] + "0", 0, 1)])

    def test_above_or_below_another_leaf(self):
        one = [("0", 0, 1), ("1", 0, 1)]
        self.check(True, [GOOD], 9, 1, one)
        self.check(False, [GOOD], 9, 1, one + [("", 0, 1)])
        self.check(False, [GOOD, GOOD], 9, 2, one + [("10", 0, 1)])
        self.check(False, [GOOD, GOOD], 9, 2, one + [("10", 0, 1), ("11", 0, 1)])
        self.check(False, [GOOD, GOOD], 9, 2, [("0", 0, 1), ("10", 0, 1)])
        self.check(True, [GOOD, GOOD], 9, 2, [("0", 0, 1), ("10", 0, 1), ("11", 0, 1)])

    def test_a_1_under_an_item_told_as_0(self):
        items = [(None, 1, 1), (0, 1, 1), (1, 1, 1)]
        paper = [("000", 0, 1), ("1", 0, 1)]
        self.check(True, items, 9, 3, paper)
        self.check(True, items, 9, 3, [("00", 0, 1), ("10", 0, 1), ("110", 0, 1), ("111", 0, 1)])
        for text in ["01", "001", "010", "011", "101"]:
            self.check(False, items, 9, 3, paper + [(text, 0, 1)])
            self.check(False, items, 9, 3, [(text, 0, 1)])
        self.check(False, items, 9, 3, [("00", 0, 1), ("01", 0, 1), ("1", 0, 1)])

    def test_p_and_q_at_their_bounds_and_beyond(self):
        far = 10 ** 12
        for p, q, wanted in [(0, 1, True), (far, far, True), (0, far, True), (-1, 1, False), (0, 0, False), (0, -1, False),
                             (far + 1, far, False), (0, far + 1, False), (True, 1, False), (0, True, False),
                             (False, 1, False), (None, 1, False), (0, None, False), ("0", 1, False), (0, "1", False),
                             (10 ** 5000, 1, False), (0, 10 ** 5000, False), ([], 1, False), (0, (), False), (1j, 1, False)]:
            self.check(wanted, FLAT, 6, 1000, [("", p, q)])
            self.check(wanted, FLAT, 6, 1000, [("0", 0, 1), ("1", p, q)])
        self.check(True, [(None, 1, 40)], 0, 0, [("0", far, 1), ("1", far, 1)])
        # A bound below nought is less than nought times whatever.
        for q in [0, -1, True]:
            self.check(False, [(None, 1, 40)], 0, 0, [("0", 0, 1), ("1", 1, q)])

    def test_of_whatever_is_handed_in(self):
        for thing in OTHER_THINGS + [nested_lists(200), nested_tuples(200), (("", 0, 1),), {("", 0, 1)}, 10 ** 5000]:
            self.check(False, FLAT, 6, 1000, thing)
        leaves = [("", 0), ("", 0, 1, 1), ["", 0, 1], (0, 1), "", ("2", 0, 1), ("01a", 0, 1), (" ", 0, 1), ("\n", 0, 1),
                  (b"", 0, 1), (0, 0, 1), (None, 0, 1), (["0"], 0, 1), (("0",), 0, 1), ("0000", 0, 1), ("0" * 7000, 0, 1),
                  ("\u0660", 0, 1), ("0\u0661", 0, 1), ("0 ", 0, 1), nested_tuples(190), nested_lists(190)]
        for thing in OTHER_THINGS + leaves:
            self.check(False, FLAT, 6, 1000, [thing])
            self.check(False, FLAT, 6, 1000, [("", 0, 1), thing])
            self.check(False, FLAT, 6, 1000, [("0", 0, 1), thing])
            self.check(False, FLAT, 6, 1000, [("0", 0, 1), ("1", 0, 1), thing])
        self.check(False, FLAT, 6, 1000, [("", 0, 1)] * 1900)

    def test_all_texts_of_ten_items(self):
        items = [(None, 3, 2)] * 10
        texts = [""]
        for item in items:
            texts = [text + sign for text in texts for sign in "01"]
        # With all decided what fits has rate nought, and what does not a steep one.
        paper = [(text, 0 if text.count("1") <= 4 else 30, 1) for text in texts]
        self.check(True, items, 9, 12, paper)
        self.check(False, items, 9, 11, paper)
        self.check(False, items, 9, 12, paper[:-1])
        self.check(False, items, 9, 12, paper[:-1] + paper[:1])

    def test_where_it_shows_no_taking_that_fits_is_worth_more(self):
        for items, room, worth, paper in papers(85):
            most = max(worth_of(items, one) for one in all_takings(items) if weight_of(items, one) <= room)
            for told in range(max(0, most - 2), most + 3):
                if shows(items, room, told, paper):
                    self.assertLessEqual(most, told)

    def test_nothing_handed_in_is_changed(self):
        items, paper = list(FLAT), list(self.PAPER)
        shows(items, 6, 15, paper)
        leaf_bound(items, 6, paper[0])
        self.assertEqual((items, paper), (FLAT, self.PAPER))


def papers(seed):
    """Forests with a room, a worth and a paper for it, in which the leaves have texts of any length."""
    source = random.Random(seed)
    found = []
    for items, room in grown_forests(60, seed):
        texts, waiting = [], [""]
        while waiting:
            text = waiting.pop()
            if len(text) == len(items) or source.random() < 0.2:
                texts.append(text)
            else:
                above = items[len(text)][0]
                waiting += [text + sign for sign in "01" if sign == "0" or above is None or text[above] == "1"]
        leaves = [(text, source.randrange(5), source.randrange(1, 4)) for text in texts]
        worth = max(0, max(leaf_bound(items, room, leaf) // leaf[2] for leaf in leaves))
        found.append((items, room, worth, leaves))
    return found


if __name__ == "__main__":
    unittest.main()
