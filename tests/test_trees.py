"""Points 3, 11, 12 and 13: trees, their sizes, and their nodes."""

import unittest

from callmelt.trees import depth_of, is_plain, is_tree, nodes, size_of, thawed
from tests.helper import (
    AROUND, NAME, ONE, OTHER_THINGS, SUM, TREES, YES, grown_trees, nested_lists, nested_tuples, of_depth, of_size,
    shown, wrapped,
)

NO_NUMBERS = [-1, 10 ** 9 + 1, 10 ** 5000, -10 ** 5000, True, False, None, "1", b"1", (), [1], (1,), ONE]
NO_WORDS = [None, 1, True, "", "A", "if", "a0", "a1000", "abcdefghi", "a b", b"a", ("a",), ["a"], NAME, [], {}]
NO_PARTS = [None, 1, True, "a", "", b"a", [], (), {}, ["number", 1], ("number",), ("number", -1), (ONE,), [ONE]]

# A melt whose body and row have melts, with plain and with other trees in the rows.
INNER = ("melt", "g", (("x", NAME), ("y", SUM)), ("do", "*", ("name", "y"), NAME))
OUTER = ("melt", "f", (("a", INNER), ("b", YES), ("c", ("many", INNER))), ("let", "z", INNER, NAME))


class TestIsTree(unittest.TestCase):
    def accept(self, *things):
        for thing in things:
            with self.subTest(shown(thing)):
                self.assertIs(is_tree(thing), True)

    def refuse(self, *things):
        for thing in things:
            with self.subTest(shown(thing)):
                self.assertIs(is_tree(thing), False)

    def test_each_form(self):
        self.accept(*TREES)
        self.accept(INNER, OUTER)
        self.accept(*grown_trees(200, "is_tree"))

    def test_things_that_are_no_tree(self):
        self.refuse(*OTHER_THINGS)
        self.refuse(0, 1, "a", "yes", "(f)", "number", ("a",), ("do",), [ONE], {"number": 1}, (ONE,), (ONE, ONE))

    def test_large_and_deep_things_that_are_no_tree(self):
        self.refuse(nested_lists(200), nested_tuples(200), list(range(7999)), tuple(range(7999)), "a" * 8000)
        self.refuse(("parts", nested_tuples(198)), ("parts", (ONE,) * 3000), ("many", nested_lists(199)))
        self.refuse(of_depth(200), of_depth(190, ("number", -1)), ("number",) * 8000, ("melt", "f", ((),) * 3000, ONE))
        deep = ONE
        for step in range(60):
            deep = ("melt", "f", (("a", deep),), ("raise", "A"))
        self.refuse(deep)

    def test_what_shares_its_parts_is_left_when_it_is_too_large(self):
        shared = ONE
        for step in range(60):
            shared = ("parts", (shared,) * 4)
        self.assertIs(is_tree(shared), False)

    def test_no_form_of_another_length(self):
        for tree in TREES:
            self.refuse(tree[:-1], tree + (ONE,), tree + (None,), tree[1:], (tree,), ())

    def test_no_list_in_the_place_of_a_tuple(self):
        for tree in TREES:
            self.refuse(list(tree))
        self.refuse(
            ("parts", []), ("parts", [ONE]), ("call", "f", []), ("call", "f", [ONE]), ("melt", "f", [], ONE),
            ("melt", "f", [("a", ONE)], ONE), ("melt", "f", (["a", ONE],), ONE), ("many", ["number", 1]),
        )

    def test_kinds_are_texts_as_told(self):
        self.refuse(("Number", 1), ("numbers", 1), ("", 1), (None, 1), (1, 1), (["number"], 1), ({}, 1), (b"number", 1))
        self.refuse(("sum", ONE, ONE), ("+", ONE, ONE), ("yes",), ("def", "f", (), ONE), ("plain", 1))

    def test_number_and_mark(self):
        for number in NO_NUMBERS:
            self.refuse(("number", number), ("mark", number, ONE))

    def test_truth(self):
        self.accept(("truth", True), ("truth", False))
        self.refuse(*[("truth", thing) for thing in [0, 1, None, "yes", "", (), [], YES]])

    def test_words(self):
        for word in NO_WORDS:
            self.refuse(
                ("name", word), ("let", word, ONE, ONE), ("loop", word, ONE, "b", ONE, ONE),
                ("loop", "b", ONE, word, ONE, ONE), ("raise", word), ("try", ONE, word, ONE), ("call", word, ()),
                ("melt", word, (), ONE), ("melt", "f", ((word, ONE),), ONE), ("melt", "f", ((word, SUM),), ONE),
            )

    def test_parts(self):
        for part in NO_PARTS:
            self.refuse(
                ("do", "+", part, ONE), ("do", "+", ONE, part), ("parts", (part,)), ("parts", (ONE, ONE, ONE, part)),
                ("pick", 1, part), ("many", part), ("if", part, ONE, ONE), ("if", ONE, part, ONE),
                ("if", ONE, ONE, part), ("let", "a", part, ONE), ("let", "a", ONE, part),
                ("loop", "a", part, "b", ONE, ONE), ("loop", "a", ONE, "b", part, ONE),
                ("loop", "a", ONE, "b", ONE, part), ("try", part, "a", ONE), ("try", ONE, "a", part),
                ("mark", 1, part), ("call", "f", (part,)), ("call", "f", (ONE, ONE, ONE, part)),
                ("melt", "f", (), part), ("melt", "f", (("a", part),), ONE),
                ("melt", "f", (("a", SUM), ("b", ONE), ("c", part)), ONE), of_depth(20, part),
            )

    def test_signs(self):
        self.accept(*[("do", sign, ONE, ONE) for sign in "+-*/<="])
        for sign in ["", ">", "==", "//", "%", "+-", "a", "if", None, 1, b"+", ("+",), ["+"], " +"]:
            self.refuse(("do", sign, ONE, ONE))

    def test_pick(self):
        self.accept(*[("pick", k, ONE) for k in [1, 2, 3, 4]])
        self.refuse(*[("pick", k, ONE) for k in [0, 5, -1, True, False, None, "1", 10 ** 5000, ONE]])

    def test_rows_of_four_and_five(self):
        self.accept(("parts", (ONE,) * 4), ("call", "f", (SUM,) * 4), ("melt", "f", (("a", ONE),) * 4, ONE))
        self.refuse(("parts", (ONE,) * 5), ("call", "f", (SUM,) * 5), ("melt", "f", (("a", ONE),) * 5, ONE))
        self.refuse(*[("parts", row) for row in [None, 1, "", "abc", ONE, {}, set(), range(2)]])
        self.refuse(*[("call", "f", row) for row in [None, 1, "", "abc", ONE, {}, set(), range(2)]])

    def test_rows_of_a_melt(self):
        rows = [None, 1, "", [], {}, (1,), (ONE,), ("a", ONE), (("a",),), (("a", ONE, ONE),), ((ONE, "a"),), ((),)]
        self.refuse(*[("melt", "f", row, ONE) for row in rows])
        self.refuse(("melt", "f", (("a", ("number", True)),), ONE), ("melt", "f", (("a", ("name", "if")),), ONE))
        self.refuse(("melt", "f", (("a", ("truth", 1)),), ONE), ("melt", "f", (("a", ("name", "b", "c")),), ONE))

    def test_the_words_of_a_loop_are_unlike(self):
        self.accept(("loop", "a", ONE, "b", ONE, ONE), ("loop", "a", ONE, "a1", ONE, ONE))
        self.refuse(("loop", "a", ONE, "a", ONE, ONE), ("many", ("loop", "b1", ONE, "b1", ONE, ONE)))

    def test_the_words_of_a_melt_are_unlike_where_their_trees_are_not_plain(self):
        self.accept(
            ("melt", "f", (("a", ONE), ("a", YES), ("a", NAME)), ONE),
            ("melt", "f", (("a", ONE), ("a", SUM), ("a", NAME)), ONE),
            ("melt", "f", (("a", SUM), ("b", SUM), ("b", ONE), ("a", YES)), ONE),
        )
        self.refuse(
            ("melt", "f", (("a", SUM), ("a", SUM)), ONE),
            ("melt", "f", (("a", SUM), ("b", ONE), ("c", SUM), ("a", ("raise", "a"))), ONE),
            ("many", ("melt", "f", (("b", ONE), ("a", SUM), ("a", INNER)), ONE)),
        )

    def test_2000_and_2001_nodes(self):
        self.accept(of_size(1999), of_size(2000))
        self.refuse(of_size(2001), of_size(2002), of_size(2600))

    def test_2000_and_2001_nodes_with_melts(self):
        plain = (("a", ONE), ("a", YES), ("a", NAME), ("a", NAME))
        self.accept(("melt", "f", plain, of_size(1999)))
        self.refuse(("melt", "f", plain, of_size(2000)))
        self.accept(("melt", "f", plain[:3] + (("a", of_size(1000)),), of_size(999)))
        self.refuse(("melt", "f", plain[:3] + (("a", of_size(1000)),), of_size(1000)))

    def test_depth_64_and_65(self):
        self.accept(of_depth(63), of_depth(64))
        self.refuse(of_depth(65), of_depth(66), of_depth(100))
        self.accept(of_depth(63, ("parts", (ONE,))), of_depth(64, ("parts", ())))
        self.refuse(of_depth(64, ("parts", (ONE,))))

    def test_depth_64_and_65_in_each_form(self):
        for around in AROUND:
            self.accept(wrapped(around, 63))
            self.refuse(wrapped(around, 64))
            self.assertEqual(depth_of(wrapped(around, 63)), 64)

    def test_depth_64_and_65_in_melts(self):
        self.accept(("melt", "f", (("a", of_depth(63)),), ONE), ("melt", "f", (), of_depth(63)))
        self.refuse(("melt", "f", (("a", of_depth(64)),), ONE), ("melt", "f", (), of_depth(64)))
        self.accept(of_depth(63, ("melt", "f", (("a", ONE),), ONE)))
        self.refuse(of_depth(64, ("melt", "f", (("a", ONE),), ONE)))

    def test_the_same_question_again(self):
        for thing in TREES + OTHER_THINGS:
            self.assertIs(is_tree(thing), is_tree(thing))


class TestIsPlain(unittest.TestCase):
    def test_each_form(self):
        for tree in TREES + [INNER, OUTER]:
            self.assertIs(is_plain(tree), tree[0] in ("number", "truth", "name"))


class TestSizeAndDepth(unittest.TestCase):
    def check(self, tree, size, depth):
        with self.subTest(shown(tree)):
            self.assertEqual((size_of(tree), depth_of(tree)), (size, depth))

    def test_each_form(self):
        self.check(ONE, 1, 1)
        self.check(YES, 1, 1)
        self.check(NAME, 1, 1)
        self.check(SUM, 3, 2)
        self.check(("do", "+", SUM, ("many", SUM)), 8, 4)
        self.check(("parts", ()), 1, 1)
        self.check(("parts", (ONE, SUM, YES)), 6, 3)
        self.check(("pick", 2, SUM), 4, 3)
        self.check(("many", ONE), 2, 2)
        self.check(("if", SUM, ONE, ("many", SUM)), 9, 4)
        self.check(("let", "a", ("many", ONE), ONE), 4, 3)
        self.check(("loop", "a", ONE, "b", ("many", SUM), ONE), 7, 4)
        self.check(("raise", "a"), 1, 1)
        self.check(("try", ONE, "a", SUM), 5, 3)
        self.check(("mark", 5, SUM), 4, 3)
        self.check(("call", "f", ()), 1, 1)
        self.check(("call", "f", (ONE, YES, SUM)), 6, 3)

    def test_melts_with_no_trees_in_their_rows(self):
        self.check(("melt", "f", (), ONE), 2, 2)
        self.check(("melt", "f", (), SUM), 4, 3)

    def test_plain_trees_in_a_row_are_no_nodes(self):
        self.check(("melt", "f", (("a", ONE), ("b", YES), ("a", NAME)), ONE), 2, 2)
        self.check(("melt", "f", (("a", ONE), ("b", SUM)), ONE), 5, 3)

    def test_other_trees_in_a_row(self):
        self.check(("melt", "f", (("a", SUM), ("b", ("many", SUM))), ("parts", ())), 9, 4)

    def test_melts_within_melts(self):
        self.check(INNER, 7, 3)
        self.check(("melt", "f", (("a", INNER),), INNER), 15, 4)
        self.check(OUTER, 1 + 7 + 8 + 9, 5)

    def test_grown_trees(self):
        self.check(of_size(2000), 2000, 11)
        self.check(of_depth(64), 64, 64)

    def test_a_tree_without_melts_has_as_many_nodes_as_are_told(self):
        for tree in [thawed(tree) for tree in grown_trees(200, "sizes")]:
            self.assertEqual(size_of(tree), len(nodes(tree)))


class TestThawed(unittest.TestCase):
    def test_trees_without_melts_stay_as_they_are(self):
        for tree in TREES:
            if tree[0] != "melt":
                self.assertEqual(repr(thawed(tree)), repr(tree))

    def test_a_melt_is_a_call_with_all_its_trees_as_args(self):
        self.assertEqual(thawed(("melt", "f", (), SUM)), ("call", "f", ()))
        melt = ("melt", "g", (("a", SUM), ("b", ONE), ("a", NAME), ("c", YES)), SUM)
        self.assertEqual(thawed(melt), ("call", "g", (SUM, ONE, NAME, YES)))

    def test_melts_within_rows_and_bodies(self):
        call = ("call", "g", (NAME, SUM))
        self.assertEqual(thawed(INNER), call)
        self.assertEqual(thawed(OUTER), ("call", "f", (call, YES, ("many", call))))

    def test_melts_in_each_form(self):
        for around in AROUND:
            if around(ONE)[0] != "melt":
                self.assertEqual(thawed(around(INNER)), around(thawed(INNER)))
                self.assertEqual(thawed(wrapped(around, 63)), wrapped(around, 63))

    def test_a_tree_thawed_bears_no_melts(self):
        for tree in grown_trees(200, "thawed"):
            self.assertTrue(is_tree(thawed(tree)))
            self.assertNotIn("'melt'", repr(thawed(tree)))
            self.assertEqual(thawed(thawed(tree)), thawed(tree))


class TestNodes(unittest.TestCase):
    def test_plain(self):
        for tree in [ONE, YES, NAME, ("raise", "a"), ("parts", ()), ("call", "f", ())]:
            self.assertEqual(nodes(tree), [tree])

    def test_the_order(self):
        one, two, three, four = [("number", number) for number in [1, 2, 3, 4]]
        left, right = ("do", "+", one, two), ("do", "-", three, four)
        for tree in [
            ("do", "*", left, right), ("parts", (left, right)), ("call", "f", (left, right)),
            ("let", "a", left, right), ("try", left, "a", right),
        ]:
            self.assertEqual(nodes(tree), [tree, left, one, two, right, three, four])
        tree = ("if", left, four, right)
        self.assertEqual(nodes(tree), [tree, left, one, two, four, right, three, four])
        tree = ("loop", "a", left, "b", four, right)
        self.assertEqual(nodes(tree), [tree, left, one, two, four, right, three, four])
        for tree in [("pick", 1, left), ("many", left), ("mark", 1, left)]:
            self.assertEqual(nodes(tree), [tree, left, one, two])

    def test_each_node_is_thawed(self):
        call = ("call", "g", (NAME, SUM))
        tree = ("many", INNER)
        self.assertEqual(nodes(tree), [("many", call), call, NAME, SUM, ONE, NAME])

    def test_melts_within_rows_and_bodies(self):
        call = ("call", "g", (NAME, SUM))
        within = [call, NAME, SUM, ONE, NAME]
        self.assertEqual(nodes(OUTER), [thawed(OUTER)] + within + [YES, ("many", call)] + within)

    def test_each_is_the_node_of_its_number(self):
        for tree in grown_trees(100, "nodes"):
            self.assertEqual(nodes(tree)[0], thawed(tree))
            self.assertEqual(nodes(tree), nodes(thawed(tree)))
            self.assertEqual(len(nodes(tree)), size_of(thawed(tree)))

    def test_a_changed_list_changes_nothing(self):
        tree = ("do", "*", SUM, INNER)
        told = nodes(tree)
        kept = list(told)
        told.reverse()
        told.pop()
        self.assertEqual(nodes(tree), kept)
        again = nodes(tree)
        again.clear()
        self.assertEqual(nodes(tree), kept)


if __name__ == "__main__":
    unittest.main()
