"""Points 31 and 32: what is done with values."""

import unittest

from callmelt.deeds import chosen, counted, do, joined, picked, rounds
from callmelt.values import is_value, parts_in
from tests.helper import nested_tuples

FAR = 10 ** 18
KIND = ("refused", "kind")
NOUGHT = ("refused", "nought")
FAR_OFF = ("refused", "far")
LACK = ("refused", "lack")
NO_NUMBERS = [True, False, (), (1,), (1, 2)]
SOME = [0, 1, -1, 7, FAR, -FAR, True, False, (), (0,), (True,), ((1, 2), 3)]


class Deeds(unittest.TestCase):
    def told(self, found, value):
        """The texts tell 1 and True apart, too."""
        self.assertEqual(repr(found), repr(("told", value)))


class TestDo(Deeds):
    def test_sums(self):
        self.told(do("+", 2, 3), 5)
        self.told(do("+", -2, 2), 0)
        self.told(do("-", 2, 3), -1)
        self.told(do("-", -2, -3), 1)
        self.told(do("*", 2, -3), -6)
        self.told(do("*", 0, -3), 0)

    def test_bounds(self):
        self.told(do("+", FAR, 0), FAR)
        self.told(do("+", FAR - 1, 1), FAR)
        self.told(do("+", FAR, -FAR), 0)
        self.told(do("-", -FAR, 0), -FAR)
        self.told(do("-", 1 - FAR, 1), -FAR)
        self.told(do("-", FAR, FAR), 0)
        self.told(do("*", 10 ** 9, 10 ** 9), FAR)
        self.told(do("*", 10 ** 9, -10 ** 9), -FAR)
        self.told(do("*", FAR, -1), -FAR)
        self.told(do("/", FAR, 1), FAR)
        self.told(do("/", -FAR, -1), FAR)
        self.told(do("/", FAR, -1), -FAR)
        self.told(do("<", -FAR, FAR), True)

    def test_far(self):
        for sign, one, other in [
            ("+", FAR, 1), ("+", 1, FAR), ("+", -FAR, -1), ("+", FAR, FAR), ("-", -FAR, 1), ("-", FAR, -1),
            ("-", -1, FAR), ("*", FAR, 2), ("*", -FAR, 2), ("*", FAR, FAR), ("*", 10 ** 9, 10 ** 9 + 1),
            ("*", -10 ** 9 - 1, 10 ** 9),
        ]:
            self.assertEqual(do(sign, one, other), FAR_OFF, (sign, one, other))

    def test_rounded_down(self):
        for one, other, number in [
            (7, 2, 3), (-7, 2, -4), (7, -2, -4), (-7, -2, 3), (6, 3, 2), (-6, 3, -2), (1, 2, 0), (-1, 2, -1), (1, -2, -1),
            (0, 5, 0), (0, -5, 0), (FAR, FAR, 1), (1 - FAR, FAR, -1), (FAR - 1, FAR, 0), (FAR, 3, 333333333333333333),
            (-FAR, 3, -333333333333333334),
        ]:
            self.told(do("/", one, other), number)

    def test_nought(self):
        for one in [0, 1, -1, FAR, -FAR]:
            self.assertEqual(do("/", one, 0), NOUGHT)

    def test_less(self):
        for one, other, truth in [(1, 2, True), (2, 1, False), (1, 1, False), (-2, -1, True), (0, -1, False)]:
            self.told(do("<", one, other), truth)

    def test_kind(self):
        for sign in "+-*/<":
            for thing in NO_NUMBERS:
                for number in [0, 1, FAR]:
                    self.assertEqual(do(sign, thing, number), KIND)
                    self.assertEqual(do(sign, number, thing), KIND)
                for other in NO_NUMBERS:
                    self.assertEqual(do(sign, thing, other), KIND)

    def test_kind_comes_ahead_of_nought(self):
        self.assertEqual(do("/", True, 0), KIND)
        self.assertEqual(do("/", (), 0), KIND)
        self.assertEqual(do("/", 1, False), KIND)

    def test_same(self):
        for at, one in enumerate(SOME):
            for place, other in enumerate(SOME):
                self.told(do("=", one, other), at == place)
        self.told(do("=", (1, (True,)), (1, (True,))), True)
        self.told(do("=", (1, (True,)), (1, (1,))), False)
        self.told(do("=", 1, True), False)
        self.told(do("=", False, 0), False)


class TestJoined(Deeds):
    def test_none_to_four(self):
        self.told(joined([]), ())
        self.told(joined([1]), (1,))
        self.told(joined([1, True]), (1, True))
        self.told(joined([(), (1,), False]), ((), (1,), False))
        self.told(joined([4, 3, 2, 1]), (4, 3, 2, 1))

    def test_40_and_41_parts(self):
        for many in [37, 38, 39]:
            self.told(joined([nested_tuples(many)]), (nested_tuples(many),))
        self.assertEqual(joined([nested_tuples(40)]), FAR_OFF)
        some = [nested_tuples(12), nested_tuples(10), nested_tuples(10)]
        found = joined(some + [nested_tuples(7)])
        self.assertEqual((found[0], parts_in(found[1])), ("told", 40))
        self.assertEqual(joined(some + [nested_tuples(8)]), FAR_OFF)
        self.assertEqual(joined([nested_tuples(40)] * 4), FAR_OFF)

    def test_what_is_told_is_a_value(self):
        for some in [SOME[at:at + 4] for at in range(len(SOME))]:
            self.assertTrue(is_value(joined(some)[1]))

    def test_the_list_stays_as_it_was(self):
        some = [1, (2,)]
        found = joined(some)
        some.append(3)
        self.told(found, (1, (2,)))
        self.assertEqual(some, [1, (2,), 3])


class TestPicked(Deeds):
    def test_each_place(self):
        for k, value in enumerate([10, True, (), (3,)], 1):
            self.told(picked(k, (10, True, (), (3,))), value)

    def test_lack(self):
        self.assertEqual(picked(1, ()), LACK)
        self.assertEqual(picked(2, (1,)), LACK)
        self.assertEqual(picked(4, (1, 2, 3)), LACK)
        self.assertEqual(picked(5, (1, 2, 3, 4)), LACK)
        self.assertEqual(picked(10 ** 9, (1, 2, 3, 4)), LACK)

    def test_kind(self):
        for value in [0, 1, -1, FAR, True, False]:
            for k in [1, 4, 9]:
                self.assertEqual(picked(k, value), KIND)


class TestCounted(Deeds):
    def test_tuples(self):
        for many in range(5):
            self.told(counted((1,) * many), many)
        self.told(counted(((1, 2, 3), ())), 2)

    def test_kind(self):
        for value in [0, 1, FAR, True, False]:
            self.assertEqual(counted(value), KIND)


class TestRounds(Deeds):
    def test_numbers_from_0_to_50(self):
        for number in range(51):
            self.told(rounds(number), number)

    def test_far(self):
        for number in [-1, 51, -50, 100, FAR, -FAR]:
            self.assertEqual(rounds(number), FAR_OFF)

    def test_kind(self):
        for value in NO_NUMBERS:
            self.assertEqual(rounds(value), KIND)


class TestChosen(Deeds):
    def test_truths(self):
        self.told(chosen(True), True)
        self.told(chosen(False), False)

    def test_kind(self):
        for value in [0, 1, -1, FAR, (), (True,), (False, False)]:
            self.assertEqual(chosen(value), KIND)


if __name__ == "__main__":
    unittest.main()
