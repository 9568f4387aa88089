"""Points 3 and 23: the texts of programs, there and back."""

import unittest

from callmelt.errors import Astray, BadDef, Loose, MeltError, NoText, Twice, Unfit
from callmelt.programs import Program, read_program, show_program
from callmelt.texts import show_tree
from callmelt.words import KEPT
from tests.helper import NAME, ONE, OTHER_THINGS, SUM, YES, nested_lists, of_depth, of_size, shown

TOLD = "(def f (a b) (+ a b))\n(def g () (f 1 yes))"
MADE = [("f", ("a", "b"), ("do", "+", NAME, ("name", "b"))), ("g", (), ("call", "f", (ONE, YES)))]


class TestShow(unittest.TestCase):
    def test_as_told(self):
        self.assertEqual(show_program(Program(MADE)), TOLD)

    def test_one_row(self):
        self.assertEqual(show_program(Program([("f", (), ONE)])), "(def f () 1)")
        self.assertEqual(show_program(Program([("f", ("a",), NAME)])), "(def f (a) a)")
        four = Program([("f", ("a", "b", "c", "d9"), SUM)])
        self.assertEqual(show_program(four), "(def f (a b c d9) (+ 1 a))")

    def test_the_order_is_that_of_the_defs(self):
        self.assertEqual(show_program(Program(MADE[::-1])), "\n".join(TOLD.split("\n")[::-1]))


class TestRead(unittest.TestCase):
    def refuse(self, *things):
        for thing in things:
            with self.subTest(shown(thing)):
                self.assertRaises(NoText, read_program, thing)

    def refuse_as(self, error, fields, text):
        with self.subTest(shown(text)):
            with self.assertRaises(error) as caught:
                read_program(text)
            self.assertIs(type(caught.exception), error)
            self.assertEqual({name: getattr(caught.exception, name) for name in fields}, fields)

    def test_as_told(self):
        program = read_program(TOLD)
        self.assertIsInstance(program, Program)
        self.assertEqual(program, Program(MADE))
        self.assertEqual(repr(program.defs()), repr(MADE))

    def test_there_and_back(self):
        rows = [
            "(def f () 1)", "(def do (call) (do call))", "(def f (a b c d) (loop a b e c (let d (+ a e) (many d))))",
            TOLD, "\n".join(f"(def {word} () (a))" for word in "abcdefgh"), "(def def1 (if1) if1)",
            "(def f (f) (try (mark 0 (f f)) f (raise f)))", "(def f () (parts))\n(def g (x) (pick 1 (if x (f) no)))",
        ]
        for text in rows:
            self.assertEqual(show_program(read_program(text)), text)
            self.assertEqual(read_program(text), Program(read_program(text).defs()))

    def test_what_is_no_text(self):
        self.refuse(*OTHER_THINGS)
        self.refuse(0, b"(def f () 1)", ["(def f () 1)"], MADE, Program(MADE), nested_lists(200), ONE, ("f", (), ONE))

    def test_no_row_or_an_empty_one(self):
        self.refuse("", "\n", "\n\n", " ", TOLD + "\n", "\n" + TOLD, TOLD.replace("\n", "\n\n"), TOLD + "\n ")

    def test_blanks_and_line_feeds(self):
        self.refuse(*[TOLD.replace("\n", other) for other in ["", " ", " \n", "\n ", "\r\n", "\r", "\x0b", "\u2028"]])
        for at, sign in enumerate(TOLD):
            if sign in " ()":
                self.refuse(TOLD[:at] + " " + TOLD[at:], TOLD[:at] + "\n" + TOLD[at:])
        self.refuse("(def f ()1)", "(def f() 1)", "(deff () 1)", "(def f ( ) 1)", "(def f (a  b) 1)", "(def f (a)(g))")
        self.refuse("(def f\n() 1)", "(def f () (+ 1\n1))", "( def f () 1)", "(def f () 1 )", "(def\tf () 1)")

    def test_rows_that_are_no_defs(self):
        self.refuse("1", "a", "def", "()", "(f)", "(+ 1 1)", "(def)", "(def f)", "(def f ())", "(def f 1)")
        self.refuse("(def f a 1)", "(def f () 1 2)", "(def f () () 1)", "(def () 1)", "(def (f) () 1)", "def f () 1")
        self.refuse("(f f () 1)")
        self.refuse("(DEF f () 1)", "(let f () 1)", "((def) f () 1)", "((def f () 1))", "(def f () 1))")
        self.refuse("((def f () 1)", "(def f () 1", "(def f ( 1)")
        self.refuse(TOLD + "\n(f)", "1\n" + TOLD, TOLD + "\n(def h () )", TOLD + "\n(def h (1) 1)")

    def test_names_and_params_are_words(self):
        for word in list(KEPT) + ["F", "1", "f0", "f1000", "abcdefghi", "+", "f" * 5000, "f" + "1" * 5000, "\u00e4"]:
            self.refuse(f"(def {word} () 1)", f"(def f ({word}) 1)", f"(def f (a {word}) 1)")
        self.refuse("(def f ((a)) 1)", "(def f (()) 1)", "(def f (a (b)) 1)", "(def f yes 1)")

    def test_bodies_are_texts_of_trees(self):
        for body in ["()", "if", "(+ 1)", "01", "1000000001", "(f", "A", "(let 1 1 1)", "(f 1 2 3 4 5)", "9" * 5000]:
            self.refuse(f"(def f () {body})")
        self.refuse(f"(def f () {show_tree(of_size(2001))})", f"(def f () {show_tree(of_depth(65))})")

    def test_very_many_brackets(self):
        for many in [200, 1001, 5000, 100000]:
            self.refuse("(" * many, "(" * many + ")" * many, "(def f () " * many + "1" + ")" * many)
            self.refuse("(def f () " + "(many " * many + "1" + ")" * many + ")")
            self.refuse("(def f " + "(" * many + ")" * many + " 1)")

    def test_no_text_comes_ahead_of_all_else(self):
        self.refuse("(def f () a)\n(def f () 1", "(def f (a a) 1)\n1", "(def f () 1)\n(def f () 1)\n")
        self.refuse("(def f () (z))\n(", "(def f () (f 1))\n(def g () if)")
        self.refuse("\n".join(["(def f () 1)"] * 9 + ["(def f ()  1)"]))

    def test_bad_def(self):
        self.refuse_as(BadDef, {"at": 0}, "(def f (a a) 1)")
        self.refuse_as(BadDef, {"at": 0}, "(def f (a b c d e) 1)")
        self.refuse_as(BadDef, {"at": 1}, TOLD.split("\n")[0] + "\n(def g (a b c d e f g h) 1)")
        self.refuse_as(BadDef, {"at": 0}, "(def f () (melt f () 1))")
        self.refuse_as(BadDef, {"at": 2}, TOLD + "\n(def h () (f (melt f () 1) 1))")
        self.refuse_as(BadDef, {"at": 0}, f"(def f () {show_tree(of_size(41))})")
        self.refuse_as(BadDef, {"at": 0}, f"(def f () {show_tree(of_size(2000))})")
        self.refuse_as(BadDef, {"at": 0}, f"(def f () {show_tree(of_depth(9))})")
        self.refuse_as(BadDef, {"at": 0}, f"(def f () {show_tree(of_depth(64))})")
        self.refuse_as(BadDef, {"at": 8}, "\n".join(f"(def {word} () 1)" for word in "abcdefghi"))

    def test_twice(self):
        self.refuse_as(Twice, {"name": "f"}, "(def f () 1)\n(def f () 1)")
        self.refuse_as(Twice, {"name": "g"}, TOLD + "\n(def g (a) a)\n(def f (a a) 1)")

    def test_loose_astray_unfit(self):
        self.refuse_as(Loose, {"where": ("f", 1), "word": "b"}, "(def f (a) (+ b a))")
        self.refuse_as(Astray, {"where": ("f", 0), "word": "z"}, "(def f (a) (z b))")
        self.refuse_as(Unfit, {"where": ("g", 2), "many": 1}, "(def f (a b) 1)\n(def g () (+ 1 (f 1)))")

    def test_whatever_is_read_is_written_so(self):
        for at in range(len(TOLD) + 1):
            for sign in ["", " ", "(", ")", "\n", "0", "1", "a", "+"]:
                for text in [TOLD[:at] + sign + TOLD[at:], TOLD[:at] + sign + TOLD[at + 1:]]:
                    self.check_read(text)

    def check_read(self, text):
        try:
            program = read_program(text)
        except MeltError:
            return
        self.assertEqual(show_program(program), text)

    def test_the_same_question_again(self):
        one, other = read_program(TOLD), read_program(TOLD)
        one.defs().clear()
        self.assertEqual(one, other)
        self.assertEqual([show_program(one), show_program(one)], [TOLD, TOLD])


if __name__ == "__main__":
    unittest.main()
