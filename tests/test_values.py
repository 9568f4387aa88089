"""Points 3 and 30: values, their parts, and which are the same."""

import itertools
import unittest

from callmelt.values import is_value, parts_in, same
from tests.helper import OTHER_THINGS, nested_lists, nested_tuples, shown

FAR = 10 ** 18


def of_parts(many):
    """A value of so many parts."""
    if many == 1:
        return 7
    if many <= 5:
        return (7,) * (many - 1)
    # All but one of the four values are tuples of as many parts as fit.
    rest = many - 4
    return (7, True, (), of_parts(rest))


class TestIsValue(unittest.TestCase):
    def check(self, things, answer):
        for thing in things:
            with self.subTest(shown(thing)):
                self.assertIs(is_value(thing), answer)

    def test_numbers(self):
        self.check([0, 1, -1, 50, 51, 10 ** 9, -10 ** 9, 10 ** 17], True)

    def test_numbers_at_and_beyond_the_bounds(self):
        self.check([FAR, -FAR, FAR - 1, 1 - FAR], True)
        self.check([FAR + 1, -FAR - 1, 10 ** 19, -10 ** 19, 10 ** 5000, -10 ** 5000], False)
        self.check([(FAR,), (1, (-FAR,))], True)
        self.check([(FAR + 1,), (1, (-FAR - 1,)), ((), (), (), 10 ** 5000)], False)

    def test_truths(self):
        self.check([True, False, (True,), (False, (True,))], True)

    def test_tuples_of_four_and_five_values(self):
        self.check([(), (1,), (1, 2), (1, 2, 3), (1, 2, 3, 4), ((), (), (), ()), (True, 1, (), ((),))], True)
        self.check([(1, 2, 3, 4, 5), ((),) * 5, (1,) * 8000, (1, (1, 2, 3, 4, 5)), ((True,) * 5,)], False)

    def test_tuples_of_40_and_41_parts(self):
        self.check([of_parts(many) for many in range(1, 41)], True)
        self.check([of_parts(many) for many in range(41, 60)], False)
        self.check([nested_tuples(39), nested_tuples(40)], True)
        self.check([nested_tuples(41), nested_tuples(42), nested_tuples(200)], False)
        nine = ((1, 1, 1, 1), (1, 1), 1)
        self.assertEqual(parts_in(nine), 10)
        self.check([(nine, nine, nine, (1, 1, 1, (1, 1, 1, 1)))], True)
        self.check([(nine, nine, nine, (1, 1, 1, (1, 1, 1, (1,))))], False)

    def test_very_deep_and_very_large_things(self):
        self.check([(1, nested_lists(190)), (nested_tuples(199), 1), nested_tuples(200), [0] * 8000], False)
        # These are too deep, or too large, to be written out in a report.
        shared = ()
        for step in range(100):
            shared = (shared, shared, shared, shared)
        for thing in [nested_tuples(100000), nested_lists(100000), shared]:
            self.assertIs(is_value(thing), False)

    def test_other_things(self):
        values = [repr(value) for value in [(), ((),), (((),),), (1, 2), (True, True), True, False, -1]]
        for thing in OTHER_THINGS:
            self.check([thing], repr(thing) in values)

    def test_other_things_within_tuples(self):
        things = ["", "1", "yes", b"1", None, [], [1], [[]], {}, {1: 1}, {1}, frozenset(), 1j, object(), int, range(2)]
        self.check(things, False)
        self.check([(thing,) for thing in things], False)
        self.check([(1, True, (thing, 2), ()) for thing in things], False)


class TestPartsIn(unittest.TestCase):
    def test_parts(self):
        for value, many in [
            (0, 1), (-FAR, 1), (True, 1), (False, 1), ((), 1), ((1,), 2), ((True, 2), 3), (((),), 2), ((1, 2, 3, 4), 5),
            (((1, 2), (3,)), 6), ((((((),),),),), 5), (((), (), (), ((),)), 6), (nested_tuples(40), 40),
        ]:
            self.assertEqual(parts_in(value), many)

    def test_each_number_of_parts(self):
        for many in range(1, 41):
            self.assertEqual(parts_in(of_parts(many)), many)


class TestSame(unittest.TestCase):
    VALUES = [
        0, 1, 2, -1, FAR, -FAR, True, False, (), (0,), (1,), (True,), (False,), ((),), ((1,),), ((True,),), (1, 2), (2, 1),
        (1, 2, 3), (1, True), (True, 1), (1, 1), (True, True), (1, (2, (3, 1))), (1, (2, (3, True))), (0, ()), (False, ()),
        ((), 0), (1, 2, 3, 4), (1, 2, 3, (4,)), ((1, 2, 3), 4),
    ]

    def test_all_unlike_values(self):
        for (at, one), (place, other) in itertools.product(enumerate(self.VALUES), repeat=2):
            with self.subTest((one, other)):
                self.assertIs(same(one, other), at == place)

    def test_one_and_yes_at_any_depth(self):
        one, yes, nought, no = 1, True, 0, False
        for step in range(39):
            self.assertIs(same(one, yes), False)
            self.assertIs(same(yes, one), False)
            self.assertIs(same(nought, no), False)
            self.assertIs(same(no, nought), False)
            self.assertIs(same(yes, yes), True)
            self.assertIs(same(nought, nought), True)
            one, yes, nought, no = (one,), (yes,), (nought,), (no,)

    def test_values_made_apart(self):
        for many in range(1, 41):
            self.assertIs(same(of_parts(many), of_parts(many)), True)
            self.assertIs(same(of_parts(many), of_parts(many % 40 + 1)), False)
        self.assertIs(same(10 ** 17 + 1, int("1" + "0" * 16 + "1")), True)
        self.assertIs(same(10 ** 17 + 1, 10 ** 17), False)


if __name__ == "__main__":
    unittest.main()
