"""Points 2, 3 and 10: whole numbers, words and fresh words."""

import unittest

from callmelt.words import KEPT, fresh, is_whole, is_word
from tests.helper import OTHER_THINGS, nested_lists, nested_tuples, shown


class TestWhole(unittest.TestCase):
    def test_numbers(self):
        for number in [0, 1, -1, 10 ** 9, -10 ** 18, 10 ** 5000]:
            self.assertIs(is_whole(number), True)

    def test_truths(self):
        self.assertIs(is_whole(True), False)
        self.assertIs(is_whole(False), False)

    def test_other_things(self):
        for thing in ["", "1", b"1", None, [], [1], (), (1,), {}, {1: 1}, {1}, 1j, object(), int, len]:
            self.assertIs(is_whole(thing), False)


class TestKept(unittest.TestCase):
    def test_kept_is_the_tuple_in_the_order_told(self):
        told = "yes no if let loop raise try pick many parts mark melt def"
        self.assertIsInstance(KEPT, tuple)
        self.assertEqual(KEPT, tuple(told.split()))


class TestWord(unittest.TestCase):
    def check(self, things, answer):
        for thing in things:
            with self.subTest(shown(thing)):
                self.assertIs(is_word(thing), answer)

    def test_each_small_letter(self):
        self.check("abcdefghijklmnopqrstuvwxyz", True)

    def test_stems_of_one_to_eight_letters(self):
        self.check(["a", "az", "abc", "abcdefg", "abcdefgh", "zzzzzzzz"], True)
        self.check(["abcdefghi", "a" * 9, "a" * 8000, "", "abcdefghi1"], False)

    def test_numbers_behind_a_stem(self):
        for stem in ["a", "abcdefgh"]:
            self.check([stem + number for number in ["1", "9", "10", "99", "100", "999"]], True)
            wrong = ["0", "00", "01", "007", "010", "0999", "1000", "1001", "9999", "1" * 5000]
            self.check([stem + number for number in wrong], False)

    def test_numbers_elsewhere(self):
        self.check(["1", "12", "1a", "a1b", "a1b2", "9" * 5000], False)

    def test_kept_words(self):
        self.check(KEPT, False)
        self.check([word + "1" for word in KEPT], True)
        self.check([word + "999" for word in KEPT], True)
        self.check([word + "0" for word in KEPT], False)
        self.check([word[:-1] for word in KEPT], True)
        self.check([word + "s" for word in KEPT], True)

    def test_kinds_that_are_no_kept_words(self):
        self.check(["number", "truth", "name", "do", "call"], True)

    def test_other_signs(self):
        self.check(["A", "aB", "a_", "_a", "a-b", "a b", " a", "a ", "a.", "(a)", "a\n", "\na", "a1\n", "a\t"], False)
        self.check(["+", "`", "{", "a`", "a{", "a/", "a:", "a1/", "a1:", "\x00", "a\x00"], False)

    def test_letters_and_figures_of_other_alphabets(self):
        self.check(["\u00e4", "a\u00df", "\u0430", "\u00aa", "\uff41", "\ud800"], False)
        self.check(["a\u0661", "a\u00b2", "a\uff11", "a1\u0661"], False)

    def test_things_that_are_no_text(self):
        self.check(OTHER_THINGS + [0, 1, ["a"], ("a",), {"a"}, {"a": "a"}, b"ab1"], False)
        self.check([nested_lists(200), nested_tuples(200), ["a"] * 8000], False)


class TestFresh(unittest.TestCase):
    def test_nothing_taken(self):
        self.assertEqual(fresh("a", []), "a1")
        self.assertEqual(fresh("abcdefgh", []), "abcdefgh1")

    def test_the_word_itself_does_not_matter(self):
        self.assertEqual(fresh("a", ["a"]), "a1")
        self.assertEqual(fresh("a7", []), "a1")
        self.assertEqual(fresh("a999", ["a1"]), "a2")
        self.assertEqual(fresh("a7", ["a7"]), "a1")

    def test_first_numbers_taken(self):
        self.assertEqual(fresh("a", ["a1", "a2", "a3"]), "a4")
        self.assertEqual(fresh("b12", ["b1"]), "b2")

    def test_some_left_out(self):
        self.assertEqual(fresh("a", ["a2", "a3"]), "a1")
        self.assertEqual(fresh("a", ["a1", "a3", "a4"]), "a2")
        self.assertEqual(fresh("a", ["a10", "a11", "a1"]), "a2")

    def test_any_order_and_more_than_once(self):
        self.assertEqual(fresh("a", ["a3", "a1", "a2", "a1"]), "a4")
        self.assertEqual(fresh("a", ["a4", "a2", "a1"]), "a3")

    def test_other_stems(self):
        self.assertEqual(fresh("a", ["b1", "aa1", "ab2", "b", "ba1"]), "a1")
        self.assertEqual(fresh("aa", ["a1", "aa1", "aaa2", "a2"]), "aa2")

    def test_stems_that_are_kept_words(self):
        self.assertEqual(fresh("yes3", ["yes1"]), "yes2")

    def test_as_many_words_as_there_may_be(self):
        words = [f"a{number}" for number in range(300, 0, -1)]
        self.assertEqual(fresh("a", words), "a301")
        self.assertEqual(fresh("a150", words[:150] + words[151:]), "a150")

    def test_it_tells_a_word_not_taken(self):
        words = ["a1", "b1", "a2"]
        for word in ["a", "a1", "b", "c9", "abcdefgh999"]:
            self.assertTrue(is_word(fresh(word, words)))
            self.assertNotIn(fresh(word, words), words)

    def test_the_list_stays_as_it_was(self):
        words = ["a2", "a1", "b", "a1"]
        self.assertEqual([fresh("a", words), fresh("a", words)], ["a3", "a3"])
        self.assertEqual(words, ["a2", "a1", "b", "a1"])


if __name__ == "__main__":
    unittest.main()
