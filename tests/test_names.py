"""Points 3 and 14: free words, bound words, all words."""

import unittest

from callmelt.names import all_words, bound_words, free_words
from callmelt.trees import is_tree, thawed
from tests.helper import ONE, SUM, YES, grown_trees


def name(word):
    return ("name", word)


def both(one, other):
    return ("do", "+", one, other)


class TestWords(unittest.TestCase):
    def check(self, tree, free, bound, every):
        self.assertTrue(is_tree(tree))
        with self.subTest(tree):
            self.assertEqual(free_words(tree), free.split())
            self.assertEqual(bound_words(tree), bound.split())
            self.assertEqual(all_words(tree), every.split())

    def test_no_names(self):
        for tree in [ONE, YES, ("parts", ()), ("many", ("pick", 1, ONE))]:
            self.check(tree, "", "", "")

    def test_names_in_each_form_that_binds_nothing(self):
        a, b, c = name("a"), name("b"), name("c")
        self.check(a, "a", "", "a")
        self.check(("do", "-", b, a), "a b", "", "a b")
        self.check(("parts", (c, b, a)), "a b c", "", "a b c")
        self.check(("pick", 1, a), "a", "", "a")
        self.check(("many", a), "a", "", "a")
        self.check(("if", c, a, b), "a b c", "", "a b c")
        self.check(("try", b, "z", a), "a b", "", "a b")
        self.check(("mark", 1, a), "a", "", "a")
        self.check(("call", "z", (b, a)), "a b", "", "a b")

    def test_sorted_as_texts_and_each_once(self):
        row = [name(word) for word in ["b", "a9", "a10", "a"]]
        self.check(("parts", (("parts", tuple(row)), ("parts", tuple(row)))), "a a10 a9 b", "", "a a10 a9 b")
        twice = ("let", "b", ("let", "a", ONE, name("a")), ("let", "a", ONE, name("b")))
        self.check(twice, "", "a b", "a b")

    def test_words_of_raise_and_try_and_names_of_defs(self):
        self.check(("raise", "a"), "", "", "")
        self.check(("try", ONE, "a", ("raise", "b")), "", "", "")
        self.check(("call", "f", ()), "", "", "")
        self.check(("melt", "f", (), ("call", "g", ())), "", "", "")
        self.check(("try", name("a"), "a", ("call", "a", ())), "a", "", "a")
        self.check(("let", "f", ONE, ("call", "f", (ONE,))), "", "f", "f")

    def test_let(self):
        self.check(("let", "a", ONE, name("a")), "", "a", "a")
        self.check(("let", "a", ONE, name("b")), "b", "a", "a b")
        self.check(("let", "a", name("a"), name("a")), "a", "a", "a")
        self.check(("let", "a", name("b"), ONE), "b", "a", "a b")

    def test_let_behind_what_it_binds(self):
        self.check(both(("let", "a", ONE, name("a")), name("a")), "a", "a", "a")
        self.check(both(name("a"), ("let", "a", ONE, name("a"))), "a", "a", "a")

    def test_loop(self):
        body = both(name("a"), both(name("b"), name("c")))
        self.check(("loop", "a", ONE, "b", ONE, body), "c", "a b", "a b c")
        self.check(("loop", "a", name("a"), "b", ONE, ONE), "a", "a b", "a b")
        self.check(("loop", "a", name("b"), "b", ONE, ONE), "b", "a b", "a b")
        self.check(("loop", "a", ONE, "b", name("a"), body), "a c", "a b", "a b c")
        self.check(("loop", "a", ONE, "b", name("b"), body), "b c", "a b", "a b c")
        self.check(both(("loop", "a", ONE, "b", ONE, body), name("b")), "b c", "a b", "a b c")

    def test_words_bound_again_within(self):
        inner = ("let", "a", name("a"), name("a"))
        self.check(("let", "a", ONE, inner), "", "a", "a")
        self.check(("let", "b", ONE, inner), "a", "a b", "a b")
        self.check(("loop", "a", ONE, "c", ONE, both(inner, name("a"))), "", "a c", "a c")
        self.check(("let", "a", inner, name("b")), "a b", "a", "a b")

    def test_bound_from_far_around(self):
        tree = both(name("a"), ("if", name("b"), ("many", name("c")), ("raise", "d")))
        self.check(("let", "a", ONE, ("let", "b", ONE, ("let", "c", ONE, tree))), "", "a b c", "a b c")
        self.check(("let", "a", ONE, ("loop", "b", ONE, "x", ONE, ("mark", 1, tree))), "c", "a b x", "a b c x")

    def test_melt_binds_its_words_in_its_body(self):
        body = both(name("x"), both(name("y"), name("z")))
        row = (("x", both(ONE, ONE)), ("y", ("parts", ())))
        self.check(("melt", "f", row, body), "z", "x y", "x y z")
        self.check(both(("melt", "f", row, body), name("x")), "x z", "x y", "x y z")

    def test_trees_in_a_melts_row_stand_outside(self):
        row = (("x", both(name("x"), name("y"))), ("y", both(name("x"), ONE)))
        self.check(("melt", "f", row, ONE), "x y", "x y", "x y")
        self.check(("let", "x", ONE, ("melt", "f", row, name("x"))), "y", "x y", "x y")

    def test_plain_trees_in_a_melts_row(self):
        self.check(("melt", "f", (("x", name("a")), ("y", ONE), ("z", YES)), ONE), "", "", "")
        self.check(("melt", "f", (("x", name("a")),), name("a")), "a", "", "a")
        self.check(("melt", "f", (("x", name("a")),), name("x")), "x", "", "x")
        self.check(("melt", "f", (("x", name("a")), ("x", ("many", name("b")))), name("x")), "b", "x", "b x")
        self.check(("melt", "f", (("x", ("many", name("a"))), ("y", name("b"))), name("y")), "a y", "x", "a x y")

    def test_melts_within_melts(self):
        inner = ("melt", "g", (("p", SUM), ("q", name("r"))), both(name("p"), name("s")))
        self.check(inner, "a s", "p", "a p s")
        outer = ("melt", "f", (("s", inner), ("t", name("u"))), ("let", "v", inner, both(name("v"), name("t"))))
        self.check(outer, "a s t", "p s v", "a p s t v")

    def test_grown_trees(self):
        for tree in grown_trees(200, "names"):
            every = sorted(set(free_words(tree)) | set(bound_words(tree)))
            self.assertEqual(sorted(set(all_words(tree)) | set(every)), all_words(tree))
            self.assertEqual(free_words(("let", "q", tree, ONE)), free_words(tree))
            for word in free_words(tree):
                self.assertNotIn(word, free_words(("let", word, ONE, tree)))
            if thawed(tree) == tree:
                self.assertEqual(all_words(tree), every)

    def test_deep_trees(self):
        tree = name("c")
        for word in ["b", "a"] * 31:
            tree = ("let", word, name(word), tree)
        self.check(tree, "a b c", "a b", "a b c")

    def test_changed_lists_change_nothing(self):
        tree = ("let", "a", name("c"), both(name("a"), name("b")))
        for ask in [free_words, bound_words, all_words]:
            told = ask(tree)
            kept = list(told)
            told.append("z")
            told.reverse()
            self.assertEqual(ask(tree), kept)


if __name__ == "__main__":
    unittest.main()
