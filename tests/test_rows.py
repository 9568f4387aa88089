"""Point 93: rows that are said to a book, and its answers."""

import unittest

from callmelt.books import Book
from callmelt.errors import (
    Astray, BadDef, Large, Loose, MeltError, NoDef, NoPath, NoRow, Nothing, TooMany, Unfit,
)
from callmelt.programs import read_program
from callmelt.reader import read_tree
from callmelt.rows import say
from callmelt.texts import show_tree
from tests.helper import (
    BRANCHING, OTHER_THINGS, TREES, grown_trees, nested_lists, nested_tuples, of_depth, of_size, shown,
)

TEXT = f"{BRANCHING}\n(def q (a b c d) a)"
# m: 5 (f a) grows by 2, 7 (f (f b)) by 3, 8 (f b) by 2, 13 (g c) by 2. f: 1 (k) by 1. g: 1 (f a) by 2.
NO_ROWS = [
    "", " ", "\n", "m", "Choose 5", "chose 5", "choose5", "in choose", "log", "together", "copied", "program", "none",
    # Blanks ahead, behind, two, and other signs between.
    " choose 5", "choose 5 ", "choose  5", "choose 13  1", "choose\n5", "choose\t5", "choose 5\n", "choose 13, 1", "choose;",
    " settle", "settle ", "settle\n", "settle settle", "settle 5", "back ", "back 1", " again", "again 1", "again again",
    "choice ", "choice 5", " growth", "growth growth", "saved ", "saved 1", "body ", "body m", "body\n",
    # Numbers.
    "choose", "choose ", "drop", "drop ", "choose 05", "choose 00", "choose 13 01", "choose 1000", "choose 13 1000",
    "choose -1", "choose +5", "choose 5.0", "choose a", "choose m 5", "choose (5)", "choose 1_0", "choose 0x5", "choose 5a",
    "choose 1 2 3 4 5 6", "drop 1 2 3 4 5 6", "choose \u0665", "choose \u00b2", "choose " + "9" * 5000, "drop " + "0" * 5000,
    "drop 05", "drop 1000", "drop  5", "drop 5 ", "drop none", "choose 1" + " 1" * 3000, "choose yes", "choose 1 yes",
    # Names and trees.
    "change", "change ", "change k", "change k ", "change  k 1", "change k  1", "change k 1 ", " change k 1", "change 1 k",
    "change K 1", "change def 1", "change yes 1", "change k0 1", "change k1000 1", "change abcdefghi 1", "change (k) 1",
    "change k 01", "change k (+ 1)", "change k (+ 1 2", "change k (+ 1 2))", "change k 1 2", "change k (+  1 2)",
    "change k (+ 1 2) ", "change k def", "change k (def k () 9)", "change k -1", "change k 1000000001", "change k A",
    "change k (+ 1\n2)", "change k " + "(" * 3000, "change k " + "(many " * 1300 + "1" + ")" * 1300, "change k ()",
    "change k " + "9" * 5000, "change k " + "(many " * 64 + "1" + ")" * 64,
]


def made(**keywords):
    return Book(read_program(TEXT), "m", [[1, 2], [2, 2], [5, 3]], **keywords)


def told(book):
    return (book.program(), book.choice(), book.body(), book.growth(), book.saved(), book.log())


class TestSay(unittest.TestCase):
    def talk(self, book, lines):
        """Rows and the answers to them."""
        for row, answer in lines:
            self.assertEqual(say(book, row), answer, row)

    def test_choose_and_drop(self):
        book = made()
        self.talk(book, [
            ("choose 13 1", "none; 13, 13 1"), ("choose 5", "none; 5"), ("choose 5", "none; none"),
            ("choice", "5, 13, 13 1"), ("drop 13", "13, 13 1; none"), ("choice", "5"), ("drop 5", "5; none"),
            ("choice", "none"),
        ])
        self.assertEqual(book.log(), [f"{end} {word}" for word in ["choose"] * 3 + ["drop"] * 2 for end in ("in", "out")])

    def test_questions(self):
        book = made()
        self.talk(book, [("choice", "none"), ("growth", "0"), ("saved", "0"), ("body", show_tree(book.body()))])
        book.choose(("m", 13, 1, 1))
        book.choose(("m", 5))
        self.talk(book, [
            ("choice", "5, 13, 13 1, 13 1 1"), ("growth", "7"), ("saved", "43"), ("body", show_tree(book.body())),
        ])
        self.assertEqual(say(book, "body"), "(if (< a b) (+ (melt f ((a a)) (* (k) a)) (f (f b))) (loop c a d b "
                         "(melt g ((a c)) (mark 1 (melt f ((a c)) (* (melt k () 9) c))))))")
        self.assertEqual(book.log(), ["in choose", "out choose"] * 2)

    def test_numbers_below_nought(self):
        book = Book(read_program("(def f () (+ (g 1 2 3 4) (g 1 2 3 4)))\n(def g (a b c d) 7)"), "f", [[]])
        self.talk(book, [
            ("choose 1", "none; 1"), ("growth", "-3"), ("saved", "6"), ("choose 6", "none; 6"), ("growth", "-6"),
            ("saved", "12"),
        ])

    def test_settle_back_and_again(self):
        book = made(room=5)
        self.talk(book, [
            ("choose 7 1", "none; 7, 7 1"), ("settle", "7, 7 1; 13, 13 1, 13 1 1"), ("settle", "none; none"),
            ("back", "none; none"), ("back", "13, 13 1, 13 1 1; 7, 7 1"), ("again", "7, 7 1; 13, 13 1, 13 1 1"),
            ("saved", "40"), ("growth", "5"),
        ])

    def test_change(self):
        book = made()
        self.talk(book, [
            ("choose 13 1", "none; 13, 13 1"), ("change k (+ 1 2)", "none; none"),
            ("change g (let b (+ a 1) (loop c b d 2 (q a b c d)))", "13 1; none"), ("choice", "13"),
        ])
        wanted = read_program(TEXT).changed("k", read_tree("(+ 1 2)"))
        wanted = wanted.changed("g", read_tree("(let b (+ a 1) (loop c b d 2 (q a b c d)))"))
        self.assertEqual(book.program(), wanted)
        body = "(if (< a b) (+ (f a) (f (f b))) (loop c a d b (melt g ((a c)) c)))"
        self.talk(book, [("change g a", "none; none"), ("body", body), ("change m no", "13; none"), ("body", "no")])

    def test_nought_and_999(self):
        book = Book(read_program("(def f () (g))\n(def g () (k))\n(def k () 1)"), "f", [[]])
        self.talk(book, [("choose 0 0", "none; 0, 0 0"), ("drop 0 0", "0 0; none"), ("drop 0", "0; none")])
        for row, path in [("choose 999", ("f", 999)), ("drop 0 999 1 0 10", ("f", 0, 999, 1, 0, 10))]:
            with self.assertRaises(NoPath) as caught:
                say(book, row)
            self.assertEqual(caught.exception.path, path)

    def test_five_numbers(self):
        book = Book(read_program("(def f () (f))"), "f", [[]], rings=5, deep=5)
        self.talk(book, [("choose 0 0 0 0 0", "none; 0, 0 0, 0 0 0, 0 0 0 0, 0 0 0 0 0"), ("drop 0 0 0 0 0", "0 0 0 0 0; none")])

    def test_as_the_deeds_told(self):
        for row, deed in [
            ("choose 13 1", lambda book: book.choose(("m", 13, 1))), ("drop 5", lambda book: book.drop(("m", 5))),
            ("change g a", lambda book: book.change("g", read_tree("a"))), ("settle", lambda book: book.settle()),
            ("back", lambda book: book.back()), ("again", lambda book: book.again()),
        ]:
            one, other = made(), made()
            for book in [one, other]:
                book.choose(("m", 5, 1))
                book.choose(("m", 7))
                book.back()
            say(one, row)
            deed(other)
            self.assertEqual(told(one), told(other))

    def test_refused_as_the_deed_is(self):
        book = made(room=5)
        book.choose(("m", 13))
        book.back()
        book.again()
        for row, error, fields in [
            ("choose 6", NoPath, {"path": ("m", 6)}), ("choose 13 1 1 1 1", NoPath, {"path": ("m", 13, 1, 1, 1, 1)}),
            ("choose 7 1", Large, {"number": 6}), ("drop 5", NoPath, {"path": ("m", 5)}), ("again", Nothing, {}),
            ("change z 1", NoDef, {"name": "z"}), ("change k (melt k () 9)", BadDef, {"at": 3}),
            ("change g b", Loose, {"where": ("g", 0), "word": "b"}), ("change g (z)", Astray, {"where": ("g", 0), "word": "z"}),
            ("change g (f)", Unfit, {"where": ("g", 0), "many": 0}), ("change g (+ a (* a (+ a a)))", Large, {"number": 6}),
            ("change m " + "(many " * 8 + "1" + ")" * 8, BadDef, {"at": 0}),
            ("change m " + show_tree(of_size(1500)), BadDef, {"at": 0}),
            ("change m " + show_tree(of_depth(64)), BadDef, {"at": 0}),
        ]:
            ahead = told(book)
            with self.assertRaises(MeltError) as caught:
                say(book, row)
            self.assertIs(caught.exception.__class__, error, row)
            for field in fields:
                self.assertEqual(getattr(caught.exception, field), fields[field])
            word = row.split(" ")[0]
            self.assertEqual(told(book), ahead[:5] + (ahead[5] + [f"in {word}", f"out {word}"],))
        self.assertEqual(say(book, "back"), "13; none")
        self.assertRaises(Nothing, say, book, "back")
        book.change("g", read_tree("(+ (f a) (f (f 1)))"))
        self.assertRaises(TooMany, say, book, "settle")

    def test_each_tree(self):
        # Whatever tree it is, the row is one.
        for tree in TREES + grown_trees(200, 93):
            book = made()
            try:
                answer = say(book, f"change k {show_tree(tree)}")
            except (BadDef, Loose, Astray, Unfit):
                answer = None
            self.assertIn(answer, [None, "none; none"])
            self.assertEqual(book.log(), ["in change", "out change"])


class TestNoRow(unittest.TestCase):
    def test_of_whatever_is_no_row(self):
        book = made()
        book.choose(("m", 13))
        book.choose(("m", 5))
        book.back()
        others = [("choose", 5), ["choose", "5"], ["settle"], b"settle", b"choose 5", ("settle",), {"settle": 1}, 5, 10 ** 5000]
        for row in NO_ROWS + OTHER_THINGS + others + [nested_tuples(200), nested_lists(200)]:
            ahead = told(book)
            with self.assertRaises(NoRow) as caught:
                say(book, row)
            self.assertIs(caught.exception.__class__, NoRow, shown(row))
            self.assertEqual(told(book), ahead)
        self.assertEqual(say(book, "again"), "none; 5")

    def test_a_tree_that_is_too_large(self):
        book = made()
        self.assertRaises(BadDef, say, book, "change k " + show_tree(of_size(2000)))
        self.assertRaises(NoRow, say, book, "change k " + show_tree(of_size(2001)))
        self.assertRaises(NoRow, say, book, "change k " + show_tree(of_depth(65)))
        self.assertEqual(book.log(), ["in change", "out change"])


if __name__ == "__main__":
    unittest.main()
