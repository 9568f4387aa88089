"""Points 3 and 20: the texts of trees, there and back."""

import unittest

from callmelt.errors import NoText
from callmelt.reader import read_tree
from callmelt.texts import show_tree
from callmelt.trees import is_tree
from callmelt.words import KEPT
from tests.helper import (
    AROUND, NAME, ONE, OTHER_THINGS, SUM, TREES, YES, grown_trees, nested_lists, of_depth, of_size, shown, wrapped,
)

WRITTEN = [
    (("number", 0), "0"),
    (("number", 7), "7"),
    (("number", 10), "10"),
    (("number", 10 ** 9), "1000000000"),
    (("truth", True), "yes"),
    (("truth", False), "no"),
    (("name", "a"), "a"),
    (("name", "yes1"), "yes1"),
    (("do", "+", ONE, NAME), "(+ 1 a)"),
    (("do", "-", ONE, NAME), "(- 1 a)"),
    (("do", "*", ONE, NAME), "(* 1 a)"),
    (("do", "/", ONE, NAME), "(/ 1 a)"),
    (("do", "<", ONE, NAME), "(< 1 a)"),
    (("do", "=", ONE, NAME), "(= 1 a)"),
    (("parts", ()), "(parts)"),
    (("parts", (ONE, SUM)), "(parts 1 (+ 1 a))"),
    (("pick", 4, NAME), "(pick 4 a)"),
    (("many", NAME), "(many a)"),
    (("if", YES, ONE, SUM), "(if yes 1 (+ 1 a))"),
    (("let", "a", ("do", "+", ONE, ("name", "b")), ("call", "f", (NAME, YES))), "(let a (+ 1 b) (f a yes))"),
    (("loop", "a", ONE, "b", ("number", 2), SUM), "(loop a 1 b 2 (+ 1 a))"),
    (("raise", "a"), "(raise a)"),
    (("try", SUM, "b", ONE), "(try (+ 1 a) b 1)"),
    (("mark", 0, ONE), "(mark 0 1)"),
    (("call", "f", ()), "(f)"),
    (("call", "f", (ONE, YES, NAME, SUM)), "(f 1 yes a (+ 1 a))"),
    (("melt", "f", (), SUM), "(melt f () (+ 1 a))"),
    (("melt", "f", (("a", ONE),), NAME), "(melt f ((a 1)) a)"),
    (("melt", "f", (("a", ONE), ("b", SUM)), ("parts", ())), "(melt f ((a 1) (b (+ 1 a))) (parts))"),
    # Kinds of trees that are no kept words: a def, or a name, may be called so.
    (("call", "do", (ONE, ONE)), "(do 1 1)"),
    (("call", "call", (NAME,)), "(call a)"),
    (("call", "number", (ONE,)), "(number 1)"),
    (("call", "truth", (YES,)), "(truth yes)"),
    (("call", "name", (NAME,)), "(name a)"),
    (("call", "many1", (NAME,)), "(many1 a)"),
    (("name", "call"), "call"),
]


class TestShow(unittest.TestCase):
    def test_each_form(self):
        for tree, text in WRITTEN:
            with self.subTest(text):
                self.assertEqual(show_tree(tree), text)

    def test_unlike_trees_have_unlike_texts(self):
        trees = TREES + grown_trees(300, "unlike")
        texts = {repr(tree): show_tree(tree) for tree in trees}
        self.assertEqual(len(set(texts.values())), len(texts))

    def test_large_and_deep_trees(self):
        self.assertEqual(show_tree(of_depth(64)), "(many " * 63 + "1" + ")" * 63)
        self.assertEqual(read_tree(show_tree(of_size(2000))), of_size(2000))


class TestRead(unittest.TestCase):
    def refuse(self, *things):
        for thing in things:
            with self.subTest(shown(thing)):
                self.assertRaises(NoText, read_tree, thing)

    def test_each_form(self):
        for tree, text in WRITTEN:
            with self.subTest(text):
                # The texts of both tell 1 and True apart, too.
                self.assertEqual(repr(read_tree(text)), repr(tree))

    def test_there_and_back(self):
        for tree in TREES + grown_trees(500, "back"):
            self.assertEqual(repr(read_tree(show_tree(tree))), repr(tree))

    def test_blanks(self):
        self.refuse(" 1", "1 ", " (f)", "(f) ", "( f)", "(f )", "( )", "(f  1)", "(f 1 )", "(f( +1 1))", "(f(g))")
        self.refuse("(f (g)(h))", "(f 1(g))", "(f (g)1)", "(melt f() 1)", "(melt f () 1 )", "(melt f (  ) 1)")
        self.refuse("(melt f ((a 1)(b 2)) 1)", "(melt f ( (a 1)) 1)", "(melt f ((a 1) ) 1)", "(melt f ((a  1)) 1)")
        self.refuse("(+1 1)", "(+ 11)", "(parts )", "(f\t1)", "(f\u00a01)", "(f\u20031)", "", " ", "   ")

    def test_any_blank_too_many_or_too_few(self):
        for tree, text in WRITTEN:
            for at, sign in enumerate(text):
                self.refuse(text[:at] + " " + text[at:] if sign in " ()" else " " + text)
                if sign == " ":
                    cut = text[:at] + text[at + 1:]
                    # With a blank gone the two beside it may make one word, as in (f1).
                    if "(" in (text[at - 1], text[at + 1]) or ")" in (text[at - 1], text[at + 1]):
                        self.refuse(cut)

    def test_numbers(self):
        self.refuse("00", "01", "-1", "+1", "1.0", "1e3", "0x1", "1_0", "1a", "\u0661", "\u00b2", "\uff11")
        self.refuse("1000000001", "9999999999", "10000000000", "0000000001", "01000000000")
        self.refuse("(mark 01 1)", "(mark -1 1)", "(mark 1000000001 1)", "(mark a 1)", "(mark yes 1)", "(mark (f) 1)")
        self.refuse("(mark \u0661 1)", "(pick 0 a)", "(pick 5 a)", "(pick 01 a)", "(pick a a)", "(pick (f) a)")

    def test_numbers_of_very_many_figures(self):
        figures = ["9" * 4300, "9" * 4301, "1" + "0" * 5000, "0" * 5000, "0" * 4400 + "1", "7" * 100000]
        for number in figures:
            self.refuse(number, f"(+ 1 {number})", f"(mark {number} 1)", f"(pick {number} a)", f"a{number}")
            self.refuse(f"(let a{number} 1 1)", f"-{number}", f"({number})", f"(melt f ((a {number})) 1)")

    def test_brackets(self):
        self.refuse("(", ")", "()", "(())", "((f))", "((f) 1)", ")(", "(f", "f)", "(f))", "((f)", "(f (g)", "(f) g)")
        self.refuse("(1)", "(yes)", "(1 2)", "(a)b", "[f]", "{f}", "((+) 1 1)", "(f ())", "(f (()))", "(+ () 1)")

    def test_very_many_brackets(self):
        for many in [65, 200, 1000, 1001, 5000, 200000]:
            self.refuse("(" * many, ")" * many, "(" * many + ")" * many, "(f " * many + "1" + ")" * many)
            self.refuse("(many " * many + "1" + ")" * many, "(" * many + "f" + ")" * many, "((" * many + "))" * many)
            self.refuse("(melt f ((a " * many + "1" + ")) 1)" * many, "(melt f () " * many + "1" + ")" * many)

    def test_signs(self):
        self.refuse("+", "(> 1 1)", "(== 1 1)", "(% 1 1)", "(// 1 1)", "(+- 1 1)", "(1 + 1)", "(& 1 1)", "(, 1 1)")
        self.refuse("a,", "a.b", "a-b", "A", "\u00e4", "(\u00e4)", "a\x00", "\x7f", "\ud800", "_", "\"a\"", "'a", "#")
        self.refuse("\u00e4" * 8000, "(" * 4000 + "\u00e4" + ")" * 3999, "(f " * 2000 + "?" + ")" * 2000)

    def test_line_feeds(self):
        self.refuse("\n", "1\n", "\n1", "(f\n1)", "(f 1)\n", "\n(f 1)", "(f 1\n)", "(f \n1)", "1\n2", "a\r\n", "a\r")

    def test_a_text_behind_a_text(self):
        self.refuse("1 2", "a b", "yes no", "(f) (g)", "(f)(g)", "(f) 1", "1 (f)", "(+ 1 1) (+ 1 1)")

    def test_kept_words(self):
        self.refuse(*[word for word in KEPT if word not in ("yes", "no")])
        self.refuse(*[f"({word})" for word in KEPT if word != "parts"])
        for word in KEPT:
            self.refuse(f"(let {word} 1 1)", f"(loop {word} 1 a 1 1)", f"(loop a 1 {word} 1 1)", f"(raise {word})")
            self.refuse(f"(try 1 {word} 1)", f"(melt {word} () 1)", f"(melt f (({word} 1)) 1)")
        self.refuse("(yes 1)", "(no)", "(def 1)", "(def f () 1)", "(def f (a) a)", "(f def)", "(f if)", "(f melt)")

    def test_things_too_many_or_too_few(self):
        for tree, text in WRITTEN:
            if text.startswith("(") and tree[0] not in ("call", "parts"):
                self.refuse(text[:-1] + " 1)", text[:text.rindex(" ")] + ")")
        self.refuse("(parts 1 2 3 4 5)", "(f 1 2 3 4 5)", "(melt f ((a 1) (a 1) (a 1) (a 1) (a 1)) 1)")
        self.refuse("(+ 1)", "(+)", "(if 1 2)", "(let a 1)", "(loop a 1 b 2)", "(try 1 a)", "(melt f 1)", "(melt)")

    def test_words_where_other_things_stand(self):
        self.refuse("(let 1 1 1)", "(let (f) 1 1)", "(let (a) 1 1)", "(raise 1)", "(raise (f))", "(try 1 2 3)")
        self.refuse("(loop a 1 a 1 1)", "(loop 1 1 a 1 1)", "(loop a 1 (b) 1 1)", "(melt (f) () 1)", "(melt 1 () 1)")
        self.refuse("(let abcdefghi 1 1)", "(let a0 1 1)", "(raise a1000)", "(abcdefghi)", "(a01 1)", "(f a0)")

    def test_rows_of_melts(self):
        self.refuse("(melt f a 1)", "(melt f (a) 1)", "(melt f (a 1) 1)", "(melt f ((a)) 1)", "(melt f ((a 1 2)) 1)")
        self.refuse("(melt f (()) 1)", "(melt f ((1 a)) 1)", "(melt f (((a) 1)) 1)", "(melt f ((a (f)) (a (f))) 1)")
        self.refuse("(melt f ((a 1) b) 1)", "(melt f 1 1)", "(melt f yes 1)", "(melt f (((a 1))) 1)")
        self.assertTrue(is_tree(read_tree("(melt f ((a (f)) (a 1)) 1)")))

    def test_2000_and_2001_nodes(self):
        self.assertEqual(read_tree(show_tree(of_size(2000))), of_size(2000))
        self.refuse(show_tree(of_size(2001)), show_tree(of_size(4000)))
        plain = ("melt", "f", (("a", ONE), ("a", YES), ("a", NAME), ("a", NAME)), of_size(1999))
        self.assertEqual(read_tree(show_tree(plain)), plain)
        self.refuse(show_tree(("many", plain)))

    def test_depth_64_and_65(self):
        for tree in [of_depth(64), of_depth(63, SUM), of_depth(64, ("call", "f", ())), ("melt", "f", (), of_depth(63))]:
            self.assertEqual(read_tree(show_tree(tree)), tree)
        self.refuse(*[show_tree(tree) for tree in [of_depth(65), of_depth(64, SUM), of_depth(65, ("call", "f", ()))]])
        self.refuse(show_tree(("melt", "f", (), of_depth(64))), show_tree(("melt", "f", (("a", of_depth(64)),), ONE)))

    def test_depth_64_and_65_in_each_form(self):
        for around in AROUND:
            deepest = wrapped(around, 63)
            self.assertEqual(read_tree(show_tree(deepest)), deepest)
            self.refuse(show_tree(around(deepest)))

    def test_as_many_brackets_within_one_another_as_a_tree_can_have(self):
        tree = ("parts", ())
        for step in range(63):
            tree = ("melt", "f", (("a", tree),), ONE)
        self.assertEqual(read_tree(show_tree(tree)), tree)
        self.refuse(show_tree(("melt", "f", (("a", tree),), ONE)))

    def test_what_is_no_text(self):
        self.refuse(*OTHER_THINGS)
        self.refuse(0, 1, b"1", b"(f)", ["1"], ("number", 1), ("a",), ["(f)"], nested_lists(200), 10 ** 5000)

    def test_whatever_is_read_is_written_so(self):
        signs = ["", " ", "(", ")", "0", "1", "a", "+", "\n", "if ", "()", "(f)"]
        for tree, text in WRITTEN:
            for at in range(len(text) + 1):
                for sign in signs:
                    for other in [text[:at] + sign + text[at:], text[:at] + sign + text[at + 1:]]:
                        self.check_read(other)

    def check_read(self, text):
        try:
            tree = read_tree(text)
        except NoText:
            return
        self.assertTrue(is_tree(tree))
        self.assertEqual(show_tree(tree), text)

    def test_the_same_question_again(self):
        for tree, text in WRITTEN:
            self.assertEqual(read_tree(text), read_tree(text))


if __name__ == "__main__":
    unittest.main()
