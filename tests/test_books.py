"""Points 9, 90, 91 and 92: books, their deeds and their log."""

import random
import unittest

from callmelt.best import best_choice
from callmelt.books import Book
from callmelt.choices import melted
from callmelt.errors import (
    Astray, BadDef, BadRun, Large, Loose, MeltError, NoDef, NoPath, Nothing, Stopped, TooMany, Unfit,
)
from callmelt.paths import defs_of, growth_of, paths_of
from callmelt.programs import Program, read_program
from callmelt.reader import read_tree
from callmelt.savings import saved
from callmelt.texts import show_tree
from tests.helper import (
    BRANCHING, OTHER_THINGS, TANGLED, grown_programs, nested_lists, nested_tuples, rows_of_args, shown,
)

TEXT = f"{BRANCHING}\n(def q (a b c d) a)"
PROGRAM = read_program(TEXT)
RUNS = [[1, 2], [2, 2], [5, 3]]
# m: 5 (f a) grows by 2, 7 (f (f b)) by 3, 8 (f b) by 2, 13 (g c) by 2. f: 1 (k) by 1. g: 1 (f a) by 2.
PATHS = [(5,), (5, 1), (7,), (7, 1), (8,), (8, 1), (13,), (13, 1), (13, 1, 1)]


def made(**keywords):
    return Book(read_program(TEXT), "m", [list(args) for args in RUNS], **keywords)


def paths(*rows):
    """Paths of m by their numbers."""
    return [("m", *row) for row in rows]


def told(book):
    """All that a book tells but its log."""
    return (book.program(), book.choice(), book.body(), book.growth(), book.saved())


def ends(*words):
    """The log of deeds that have no others within them."""
    return [f"{end} {word}" for word in words for end in ("in", "out")]


class TestBook(unittest.TestCase):
    """What several tests ask of books."""

    def refuse(self, error, deed, book, **fields):
        """A deed is refused, and leaves all that the book tells as it was, but its log."""
        ahead, log = told(book), book.log()
        with self.assertRaises(error) as caught:
            deed()
        self.assertIs(caught.exception.__class__, error)
        for field in fields:
            self.assertEqual(getattr(caught.exception, field), fields[field])
        self.assertEqual(told(book), ahead)
        self.assertEqual(book.log()[:len(log)], log)
        return caught.exception

    def has(self, book, *rows, program=PROGRAM):
        """The book has this program and these paths chosen, and tells what hangs on them."""
        choice = paths(*rows)
        self.assertEqual(book.program(), program)
        self.assertEqual(book.choice(), choice)
        self.assertEqual(book.body(), melted(program, "m", choice))
        self.assertEqual(book.growth(), sum(growth_of(program, path) for path in choice))
        self.assertEqual(book.saved(), saved(program, "m", choice, RUNS))


class TestMade(TestBook):
    def test_at_first(self):
        book = made()
        self.has(book)
        self.assertEqual((book.growth(), book.saved(), book.log()), (0, 0, []))
        self.assertIsInstance(book.program(), Program)
        self.assertEqual(book.body(), PROGRAM.body("m"))

    def test_refused_as_the_tally_is(self):
        for root in OTHER_THINGS + ["z", "M", "def", ("m",), nested_lists(200), 10 ** 5000]:
            for runs in [RUNS, [], None]:
                with self.assertRaises(NoDef) as caught:
                    Book(PROGRAM, root, runs)
                self.assertIs(caught.exception.name, root)
        calls = "(parts (f) (f) (f) (f))"
        rounds = read_program(f"(def f () (parts {calls} {calls}))")
        self.assertEqual(Book(rounds, "f", [[]], rings=1).choice(), [])
        for runs in [[[]], [], None]:
            with self.assertRaises(TooMany) as caught:
                Book(rounds, "f", runs, rings=2)
            self.assertEqual(caught.exception.number, 40)
        nine = "(parts (parts (k) (k) (k) (k)) (parts (k) (k) (k) (k)) (k))"
        wide = read_program(f"(def f () {nine.replace('k', 'g')})\n(def g () {nine})\n(def k () 1)")
        self.assertEqual(Book(wide, "f", [[]], deep=1).choice(), [])
        self.assertRaises(TooMany, Book, wide, "f", [[]], deep=2)
        bad = [(None, 0), ([], 0), (([1, 2],), 0), ([[1, 2], [1]], 1), ([[1, 2]] * 7, 6), ([[1, 2]] * 6 + [None], 6)]
        for runs, at in bad + [([[1, 2], thing], 1) for thing in OTHER_THINGS]:
            with self.assertRaises(BadRun) as caught:
                Book(PROGRAM, "m", runs)
            self.assertEqual(caught.exception.at, at)

    def test_more_than_ten_paths_are_no_hindrance(self):
        program = read_program("(def f () (parts (parts (g) (g) (g)) (parts (g) (g) (g))))\n(def g () (k))\n(def k () 1)")
        book = Book(program, "f", [[]])
        self.assertEqual(book.choose(("f", 2, 0)), ([], [("f", 2), ("f", 2, 0)]))
        self.refuse(TooMany, book.settle, book, number=10)

    def test_what_it_was_made_of_may_be_changed_behind_it(self):
        runs = [[5, 3], [2, 2]]
        book = Book(PROGRAM, "m", runs)
        book.choose(("m", 13))
        self.assertEqual(book.saved(), 15)
        runs[0][1] = 0
        runs.append(None)
        self.assertEqual(book.saved(), 15)
        runs.clear()
        self.assertEqual(book.saved(), 15)
        self.assertEqual(book.copied().saved(), 15)

    def test_fuel_rings_and_deep(self):
        book = made(fuel=5)
        book.choose(("m", 13))
        # In the runs [2, 2] and [5, 3] five ticks are one turn.
        self.assertEqual(book.saved(), 6)
        book = made(deep=1)
        self.refuse(NoPath, lambda: book.choose(("m", 5, 1)), book)
        self.assertEqual(book.choose(("m", 5)), ([], paths([5])))
        program = read_program("(def f (a) (if (< a 1) 0 (f (- a 1))))")
        book = Book(program, "f", [[3]])
        self.refuse(NoPath, lambda: book.choose(("f", 5)), book)
        book = Book(program, "f", [[3]], rings=2, deep=5)
        self.assertEqual(book.choose(("f", 5, 5)), ([], [("f", 5), ("f", 5, 5)]))
        self.refuse(NoPath, lambda: book.choose(("f", 5, 5, 5)), book)
        self.assertEqual(book.saved(), 4)


class TestChoose(TestBook):
    def test_a_path_and_its_beginnings(self):
        book = made()
        self.assertEqual(book.choose(("m", 13, 1, 1)), ([], paths([13], [13, 1], [13, 1, 1])))
        self.has(book, [13], [13, 1], [13, 1, 1])
        self.assertEqual(book.choose(("m", 5)), ([], paths([5])))
        self.assertEqual(book.choose(("m", 5, 1)), ([], paths([5, 1])))
        self.assertEqual(book.choose(("m", 7, 1)), ([], paths([7], [7, 1])))
        self.has(book, [5], [5, 1], [7], [7, 1], [13], [13, 1], [13, 1, 1])
        self.assertEqual(book.log(), ends("choose", "choose", "choose", "choose"))

    def test_what_is_chosen_already(self):
        book = made()
        book.choose(("m", 5, 1))
        self.assertEqual(book.choose(("m", 5)), ([], []))
        self.assertEqual(book.choose(("m", 5, 1)), ([], []))
        self.has(book, [5], [5, 1])

    def test_no_path(self):
        book = made()
        book.choose(("m", 5))
        others = [("m",), ("m", 0), ("m", 6), ("m", 5, 0), ("m", 5, 1, 0), ("f", 1), ("z", 5), ("m", True), ("m", 5, True),
                  ["m", 5], "m 5", ("m", "5"), ("m", 10 ** 5000), ("m",) + (5,) * 7000, ("m", (5,)), ("m", [5]),
                  nested_tuples(200), nested_lists(200), 10 ** 5000]
        for thing in OTHER_THINGS + others:
            caught = self.refuse(NoPath, lambda: book.choose(thing), book)
            self.assertIs(caught.path, thing, shown(thing))
        self.has(book, [5])

    def test_no_path_where_a_number_is_1(self):
        # Python takes True for 1.
        program = read_program("(def f () (+ (k) 1))\n(def k () 1)")
        book = Book(program, "f", [[]])
        self.refuse(NoPath, lambda: book.choose(("f", True)), book)
        book.choose(("f", 1))
        self.refuse(NoPath, lambda: book.drop(("f", True)), book)

    def test_large(self):
        book = made(room=5)
        book.choose(("m", 13))
        self.refuse(Large, lambda: book.choose(("m", 7, 1)), book, number=6)
        self.assertEqual(book.choose(("m", 7)), ([], paths([7])))
        self.assertEqual(book.growth(), 5)
        self.refuse(Large, lambda: book.choose(("m", 13, 1)), book, number=7)
        self.refuse(Large, lambda: book.choose(("m", 13, 1, 1)), book, number=8)
        self.refuse(NoPath, lambda: book.choose(("m", 13, 1, 2)), book)
        self.has(book, [7], [13])

    def test_no_room(self):
        book = made(room=0)
        self.refuse(Large, lambda: book.choose(("m", 13)), book, number=2)
        program = read_program("(def f () (+ (g 1 2) (k)))\n(def g (a b) 1)\n(def k () 1)")
        book = Book(program, "f", [[]], room=0)
        self.refuse(Large, lambda: book.choose(("f", 4)), book, number=1)
        self.assertEqual(book.choose(("f", 1)), ([], [("f", 1)]))
        self.assertEqual(book.growth(), -1)
        self.assertEqual(book.choose(("f", 4)), ([], [("f", 4)]))
        self.assertEqual((book.growth(), book.saved()), (0, 6))


class TestDrop(TestBook):
    def test_a_path_and_all_that_go_on_from_it(self):
        book = made()
        for path in paths([13, 1, 1], [5, 1], [7]):
            book.choose(path)
        self.assertEqual(book.drop(("m", 13, 1)), (paths([13, 1], [13, 1, 1]), []))
        self.has(book, [5], [5, 1], [7], [13])
        self.assertEqual(book.drop(("m", 5)), (paths([5], [5, 1]), []))
        self.has(book, [7], [13])
        self.assertEqual(book.drop(("m", 13)), (paths([13]), []))
        self.assertEqual(book.drop(("m", 7)), (paths([7]), []))
        self.has(book)
        self.assertEqual(book.log(), ends(*["choose"] * 3 + ["drop"] * 4))

    def test_what_is_not_chosen(self):
        book = made()
        book.choose(("m", 13, 1))
        others = paths([5], [13, 1, 1], [13, 2], [0], []) + [("f", 1), ("m", 13, True), ["m", 13], nested_tuples(200)]
        for thing in OTHER_THINGS + others + [10 ** 5000, ("m", 10 ** 5000)]:
            caught = self.refuse(NoPath, lambda: book.drop(thing), book)
            self.assertIs(caught.path, thing, shown(thing))
        self.has(book, [13], [13, 1])

    def test_that_makes_the_growth_larger(self):
        program = read_program("(def f () (+ (g 1 2) (+ (k) (h 3))))\n(def g (a b) 1)\n(def k () 1)\n(def h (a) (g a a))")
        book = Book(program, "f", [[]], room=0)
        # (g 1 2) grows by -1, (k) by 1, (h 3) by 2, and (g a a) in it by -1.
        book.choose(("f", 1))
        book.choose(("f", 5))
        self.assertEqual(book.growth(), 0)
        self.refuse(Large, lambda: book.drop(("f", 1)), book, number=1)
        self.assertEqual(book.log(), ends("choose", "choose", "drop"))
        self.assertEqual(book.drop(("f", 5)), ([("f", 5)], []))
        self.assertEqual(book.choose(("f", 6, 0)), ([], [("f", 6), ("f", 6, 0)]))
        self.refuse(Large, lambda: book.drop(("f", 1)), book, number=1)
        self.refuse(Large, lambda: book.drop(("f", 6, 0)), book, number=1)
        self.assertEqual(book.drop(("f", 6)), ([("f", 6), ("f", 6, 0)], []))


class TestChange(TestBook):
    def changed(self, book, name, text):
        return book.change(name, read_tree(text))

    def test_a_body_that_lets_nothing_fall(self):
        book = made()
        book.choose(("m", 13, 1, 1))
        self.assertEqual(self.changed(book, "k", "(+ 1 2)"), ([], []))
        program = PROGRAM.changed("k", read_tree("(+ 1 2)"))
        self.has(book, [13], [13, 1], [13, 1, 1], program=program)
        self.assertEqual(book.growth(), 7)
        self.assertEqual(book.log(), ends("choose", "change"))

    def test_paths_that_are_none_any_longer_fall_with_what_goes_on_from_them(self):
        book = made()
        for path in paths([13, 1, 1], [5, 1], [7, 1]):
            book.choose(path)
        self.assertEqual(self.changed(book, "g", "(mark 1 (+ a 2))"), (paths([13, 1], [13, 1, 1]), []))
        self.assertEqual(self.changed(book, "f", "(+ 2 (k))"), (paths([5, 1], [7, 1]), []))
        program = PROGRAM.changed("g", read_tree("(mark 1 (+ a 2))")).changed("f", read_tree("(+ 2 (k))"))
        self.has(book, [5], [7], [13], program=program)
        # At its own number a call of the same def stays, whatever its args.
        self.assertEqual(self.changed(book, "m", "(parts 1 2 3 4)"), (paths([5], [7], [13]), []))
        self.assertEqual((book.choice(), book.growth(), book.saved()), ([], 0, 0))

    def test_paths_by_other_defs_fall(self):
        book = made()
        for path in paths([13, 1, 1], [5, 1]):
            book.choose(path)
        # At 13 and then 1 there is a call still, but of another def; what is behind it falls, too.
        self.assertEqual(self.changed(book, "g", "(mark 1 (q a a a a))"), (paths([13, 1], [13, 1, 1]), []))
        self.assertEqual(book.choice(), paths([5], [5, 1], [13]))

    def test_a_path_by_another_def_with_the_same_numbers_behind(self):
        program = read_program("(def m () (+ 1 (f)))\n(def f () (* 2 (k)))\n(def g () (- 3 (k)))\n(def k () 9)")
        book = Book(program, "m", [[]])
        book.choose(("m", 2, 2))
        # (m 2 2) is a path still, and calls k still, but by g.
        self.assertEqual(self.changed(book, "m", "(+ 1 (g))"), (paths([2], [2, 2]), []))
        self.assertEqual(book.choice(), [])
        self.assertEqual(book.back(), ([], paths([2], [2, 2])))
        # The same def at the same number, with all else changed around it.
        self.assertEqual(self.changed(book, "m", "(if yes (f) 1)"), ([], []))
        self.assertEqual(book.choice(), paths([2], [2, 2]))

    def test_refused_as_changed_is(self):
        book = made()
        book.choose(("m", 13))
        for name in OTHER_THINGS + ["z", "M", "def", ("m",), nested_lists(200), 10 ** 5000]:
            caught = self.refuse(NoDef, lambda: book.change(name, None), book)
            self.assertIs(caught.name, name)
        for thing in OTHER_THINGS + [read_tree("(melt k () 9)"), read_tree("(many " * 8 + "1" + ")" * 8), nested_tuples(200)]:
            self.refuse(BadDef, lambda: book.change("g", thing), book, at=2)
            self.refuse(BadDef, lambda: book.change("m", thing), book, at=0)
        self.refuse(Loose, lambda: self.changed(book, "g", "(+ a b)"), book, where=("g", 2), word="b")
        self.refuse(Astray, lambda: self.changed(book, "k", "(z)"), book, where=("k", 0), word="z")
        self.refuse(Unfit, lambda: self.changed(book, "k", "(f)"), book, where=("k", 0), many=0)
        self.has(book, [13])

    def test_too_many(self):
        program = read_program("(def f () (parts (g) (g) (g) (g)))\n(def g () (k))\n(def k () 1)")
        book = Book(program, "f", [[]], room=0)
        self.refuse(TooMany, lambda: self.changed(book, "g", "(parts " + "(parts (k) (k) (k)) " * 2 + "(parts (k) (k) (k) (k)))"),
                    book, number=40)
        self.assertEqual(book.log(), ends("change"))
        self.assertEqual(self.changed(book, "g", "(parts " + "(parts (k) (k) (k)) " * 2 + "(parts (k) (k) (k)))"), ([], []))

    def test_that_makes_the_growth_larger(self):
        book = made(room=5)
        book.choose(("m", 13, 1, 1))
        self.assertEqual(book.growth(), 5)
        self.refuse(Large, lambda: self.changed(book, "k", "(+ 1 2)"), book, number=7)
        self.has(book, [13], [13, 1], [13, 1, 1])
        # What falls does not count.
        self.assertEqual(self.changed(book, "g", "(+ (k) (+ 1 2))"), (paths([13, 1], [13, 1, 1]), []))
        self.assertEqual(book.growth(), 4)
        book.back()
        self.refuse(Large, lambda: self.changed(book, "g", "(+ (+ 1 a) (+ (k) (+ 1 2)))"), book, number=8)

    def test_that_lets_fall_what_makes_the_growth_less(self):
        program = read_program("(def f () (+ (g 1 2) (k)))\n(def g (a b) 1)\n(def k () 1)")
        book = Book(program, "f", [[]], room=0)
        book.choose(("f", 1))
        book.choose(("f", 4))
        # (g 1 2) falls, which grew by -1.
        self.refuse(Large, lambda: self.changed(book, "f", "(+ (+ 1 2) (k))"), book, number=1)
        self.assertEqual(self.changed(book, "f", "(+ 1 2)"), ([("f", 1), ("f", 4)], []))


class TestSettle(TestBook):
    def test_the_best_choice(self):
        for room in range(0, 12):
            book = made(room=room)
            book.settle()
            worth, choice, paper = best_choice(PROGRAM, "m", RUNS, room=room)
            self.assertEqual((book.saved(), book.choice()), (worth, choice))
            self.assertLessEqual(book.growth(), room)
            self.assertEqual(book.log(), ends("settle"))

    def test_what_goes_and_comes(self):
        book = made(room=5)
        book.choose(("m", 7, 1))
        # Five turns in all: (g c), its (f a) and its (k) save most.
        self.assertEqual(book.settle(), (paths([7], [7, 1]), paths([13], [13, 1], [13, 1, 1])))
        self.has(book, [13], [13, 1], [13, 1, 1])
        self.assertEqual(book.settle(), ([], []))

    def test_too_many(self):
        book = made(rings=0)
        self.assertEqual(len(paths_of(PROGRAM, "m")), 9)
        book.change("g", read_tree("(+ (f a) (f (f 1)))"))
        self.refuse(TooMany, book.settle, book, number=10)
        self.assertEqual(book.log(), ends("change", "settle"))
        book.back()
        book.settle()

    def test_by_the_rings_deep_and_fuel_of_the_book(self):
        program = read_program("(def f (a) (if (< a 1) 0 (f (- a 1))))")
        for rings, deep, fuel in [(0, 3, 60), (1, 3, 60), (3, 3, 60), (3, 2, 60), (3, 5, 60), (3, 3, 7), (3, 3, 3)]:
            book = Book(program, "f", [[9]], rings=rings, deep=deep, fuel=fuel, room=100)
            book.settle()
            wanted = best_choice(program, "f", [[9]], rings=rings, deep=deep, fuel=fuel, room=100)
            self.assertEqual((book.saved(), book.choice()), wanted[:2])
        # With four fuel no run comes as far as (g c).
        self.assertEqual(made(fuel=4, room=2).settle(), ([], paths([5])))
        self.assertEqual(made(fuel=60, room=2).settle(), ([], paths([13])))


class TestBackAndAgain(TestBook):
    def test_over_each_deed(self):
        deeds = [
            lambda book: book.choose(("m", 13, 1)),
            lambda book: book.choose(("m", 5, 1)),
            lambda book: book.drop(("m", 13, 1)),
            lambda book: book.change("f", read_tree("(+ a a)")),
            lambda book: book.settle(),
            lambda book: book.together(["drop 13", "choose 7", "change k (+ 1 2)"]),
            lambda book: book.choose(("m", 7)),
        ]
        book = made()
        states, answers = [told(book)], []
        for deed in deeds:
            answers.append(deed(book))
            states.append(told(book))
        for at in range(len(deeds) - 1, -1, -1):
            self.assertEqual(book.back(), answers[at][::-1])
            self.assertEqual(told(book), states[at])
        self.refuse(Nothing, book.back, book)
        for at in range(len(deeds)):
            self.assertEqual(book.again(), answers[at])
            self.assertEqual(told(book), states[at + 1])
        self.refuse(Nothing, book.again, book)
        for at in range(len(deeds) - 1, 2, -1):
            book.back()
        book.again()
        book.back()
        self.assertEqual(told(book), states[3])

    def test_nothing(self):
        book = made()
        self.refuse(Nothing, book.back, book)
        self.refuse(Nothing, book.again, book)
        self.assertEqual(book.log(), ends("back", "again"))
        self.assertEqual(book.choose(("m", 5)), ([], paths([5])))
        self.refuse(Nothing, book.again, book)
        book.back()
        self.refuse(Nothing, book.back, book)
        book.again()
        self.assertEqual(book.log(), ends("back", "again", "choose", "again", "back", "back", "again"))

    def test_a_deed_that_changes_nothing_is_one(self):
        book = made()
        book.choose(("m", 5))
        book.choose(("m", 5))
        self.assertEqual(book.back(), ([], []))
        self.assertEqual(book.choice(), paths([5]))
        self.assertEqual(book.back(), (paths([5]), []))
        book.together([])
        self.refuse(Nothing, book.again, book)
        self.assertEqual(book.back(), ([], []))
        self.refuse(Nothing, book.back, book)

    def test_a_refused_deed_is_none(self):
        book = made(room=5)
        book.choose(("m", 5))
        book.choose(("m", 7))
        book.back()
        for error, deed in [
            (NoPath, lambda: book.choose(None)), (Large, lambda: book.choose(("m", 13, 1))), (NoPath, lambda: book.drop(("m", 7))),
            (NoDef, lambda: book.change("z", None)), (BadDef, lambda: book.change("m", None)),
            (Stopped, lambda: book.together(["drop 5", "drop 5"])),
        ]:
            self.refuse(error, deed, book)
        # What was taken back may be done again still.
        self.assertEqual(book.again(), ([], paths([7])))
        self.assertEqual(book.back(), (paths([7]), []))
        self.assertEqual(book.back(), (paths([5]), []))
        self.refuse(Nothing, book.back, book)
        self.assertEqual(book.again(), ([], paths([5])))

    def test_a_deed_behind_a_back_leaves_nothing_to_do_again(self):
        for deed in [
            lambda book: book.choose(("m", 5)), lambda book: book.choose(("m", 8)), lambda book: book.drop(("m", 5)),
            lambda book: book.change("k", read_tree("9")), lambda book: book.settle(), lambda book: book.together([]),
            lambda book: book.together(["choose 8"]),
        ]:
            book = made()
            book.choose(("m", 5))
            book.choose(("m", 7))
            book.choose(("m", 13))
            book.back()
            book.back()
            state = told(book)
            deed(book)
            self.refuse(Nothing, book.again, book)
            book.back()
            self.assertEqual(told(book), state)
            book.again()
            book.back()
            self.assertEqual(book.back(), (paths([5]), []))

    def test_back_over_a_change(self):
        book = made()
        book.choose(("m", 13, 1))
        book.change("g", read_tree("a"))
        program = book.program()
        self.assertEqual(program, PROGRAM.changed("g", read_tree("a")))
        self.assertEqual(book.back(), ([], paths([13, 1])))
        self.has(book, [13], [13, 1])
        self.assertEqual(book.again(), (paths([13, 1]), []))
        self.has(book, [13], program=program)


class TestTogether(TestBook):
    def test_as_one_deed(self):
        book = made()
        book.choose(("m", 5))
        self.assertEqual(book.together(["choose 13 1", "drop 5", "change g (+ a 1)", "choose 7 1", "drop 7 1"]),
                         (paths([5]), paths([7], [13])))
        program = PROGRAM.changed("g", read_tree("(+ a 1)"))
        self.has(book, [7], [13], program=program)
        self.assertEqual(book.back(), (paths([7], [13]), paths([5])))
        self.has(book, [5])
        self.assertEqual(book.again(), (paths([5]), paths([7], [13])))
        self.has(book, [7], [13], program=program)
        book.back()
        book.back()
        self.has(book)

    def test_each_kind_of_row(self):
        book = made(room=5)
        self.assertEqual(book.together(["settle"]), ([], paths([13], [13, 1], [13, 1, 1])))
        self.assertEqual(book.together(["drop 13", "settle", "drop 13 1"]), (paths([13, 1], [13, 1, 1]), []))
        self.assertEqual(book.together([]), ([], []))
        self.assertEqual(book.log(), [
            "in together", "in settle", "out settle", "out together",
            "in together", "in drop", "out drop", "in settle", "out settle", "in drop", "out drop", "out together",
            "in together", "out together",
        ])

    def test_stopped(self):
        book = made(room=5)
        book.choose(("m", 5))
        for rows, at in [
            (["choose 6"], 0), (["choose 7", "choose 6", "choose 99"], 1), (["choose 7", "choose 13"], 1),
            (["drop 7"], 0), (["drop 5", "drop 5"], 1), (["drop 5", "choose 7", "change z 1"], 2),
            (["change k (+ 1"], 0), (["change k (+ 1 2)", "change k (+ 1 b)"], 1), (["change g (melt k () 9)"], 0),
            (["change g (+ (f a) (f (f 1)))", "settle"], 1), (["settle", "settle", "Settle"], 2),
        ]:
            self.refuse(Stopped, lambda: book.together(rows), book, at=at)
        self.has(book, [5])

    def test_what_is_no_deed_for_it(self):
        book = made()
        book.choose(("m", 5))
        book.choose(("m", 7))
        book.back()
        for row in ["back", "again", "choice", "growth", "saved", "body", "together", "log", "", " ", "settle ", "choose",
                    "choose 01", "drop  5", "change m"] + OTHER_THINGS:
            self.refuse(Stopped, lambda: book.together([row]), book, at=0)
            self.refuse(Stopped, lambda: book.together(["drop 5", "choose 8", row, "settle"]), book, at=2)
            self.assertEqual(book.log()[-8:], [
                "in together", "out together", "in together", "in drop", "out drop", "in choose", "out choose", "out together",
            ])
        self.assertEqual(book.again(), ([], paths([7])))

    def test_refused_behind_deeds_that_were_not(self):
        book = made()
        book.choose(("m", 5))
        self.refuse(Stopped, lambda: book.together(["drop 5", "choose 13", "choose 6", "choose 7"]), book, at=2)
        self.assertEqual(book.log(), ends("choose") + ["in together"] + ends("drop", "choose", "choose") + ["out together"])
        self.assertEqual(book.back(), (paths([5]), []))
        self.refuse(Nothing, book.back, book)

    def test_what_is_no_list(self):
        book = made()
        for rows in [None, "settle", ("settle",), {"settle": 1}, 5]:
            self.refuse(Stopped, lambda: book.together(rows), book, at=0)
        self.assertEqual(book.log(), ["in together", "out together"] * 5)

    def test_the_rows_are_not_changed(self):
        book, rows = made(), ["choose 5", "choose 7"]
        book.together(rows)
        self.assertEqual(rows, ["choose 5", "choose 7"])
        rows.clear()
        book.back()
        self.assertEqual(book.again(), ([], paths([5], [7])))


class TestLogAndCopies(TestBook):
    def test_refused_deeds_have_both_ends(self):
        book = made(room=3)
        for deed in [
            lambda: book.choose(("m", 6)), lambda: book.choose(("m", 13, 1)), lambda: book.drop(("m", 13)),
            lambda: book.change("z", None), lambda: book.change("m", None), book.back, book.again,
            lambda: book.together(["back"]),
        ]:
            self.assertRaises(MeltError, deed)
        self.assertEqual(book.log(), ends("choose", "choose", "drop", "change", "change", "back", "again", "together"))
        book.choose(("m", 13))
        self.has(book, [13])

    def test_a_back_and_an_again_have_their_own_two_alone(self):
        book = made()
        book.together(["choose 5", "choose 7"])
        log = book.log()
        book.back()
        book.again()
        self.assertEqual(book.log(), log + ["in back", "out back", "in again", "out again"])

    def test_questions_are_not_logged(self):
        book = made()
        told(book)
        book.copied()
        self.assertEqual(book.log(), [])

    def test_lists_that_are_told_are_the_askers_own(self):
        book = made()
        gone, come = book.choose(("m", 13, 1))
        come.clear()
        gone.append(None)
        book.choice().clear()
        book.log().clear()
        self.has(book, [13], [13, 1])
        self.assertEqual(book.log(), ends("choose"))
        gone, come = book.back()
        gone.clear()
        gone, come = book.again()
        self.assertEqual(come, paths([13], [13, 1]))
        come.append(None)
        gone, come = book.settle()
        come.clear()
        choice = book.choice()
        copy = book.copied()
        copy.choice().clear()
        copy.log().clear()
        self.assertEqual((book.choice(), copy.choice()), (choice, choice))
        log, first = book.log(), book.choice()
        book.drop(("m", 13))
        self.assertEqual((log, first), (ends("choose", "back", "again", "settle"), choice))

    def test_a_copy_goes_on_by_itself(self):
        book = made(room=8, fuel=50, rings=1, deep=2)
        book.choose(("m", 13, 1))
        book.change("k", read_tree("8"))
        book.choose(("m", 5))
        book.back()
        copy = book.copied()
        self.assertIsInstance(copy, Book)
        self.assertEqual((told(copy), copy.log()), (told(book), book.log()))
        ahead, log = told(book), book.log()
        # All that may be done again and taken back.
        self.assertEqual(copy.again(), ([], paths([5])))
        self.assertEqual(copy.back(), (paths([5]), []))
        self.assertEqual(copy.back(), ([], []))
        self.assertEqual(copy.back(), (paths([13], [13, 1]), []))
        self.refuse(Nothing, copy.back, copy)
        self.refuse(NoPath, lambda: copy.choose(("m", 13, 1, 1)), copy)
        copy.choose(("m", 7))
        self.refuse(Nothing, copy.again, copy)
        copy.choose(("m", 5))
        self.refuse(Large, lambda: copy.choose(("m", 13, 1)), copy, number=9)
        copy.back()
        self.assertEqual((told(book), book.log()), (ahead, log))
        self.assertEqual(copy.log(), log + ends(
            "again", "back", "back", "back", "back", "choose", "choose", "again", "choose", "choose", "back",
        ))
        # And the other way.
        ahead, log = told(copy), copy.log()
        self.assertEqual(book.again(), ([], paths([5])))
        book.settle()
        self.assertEqual((told(copy), copy.log()), (ahead, log))
        self.assertEqual(copy.back(), (paths([7]), []))

    def test_a_copy_has_the_rings_deep_room_and_fuel(self):
        program = read_program("(def f (a) (if (< a 1) 0 (f (- a 1))))")
        for rings, deep, room, fuel in [(0, 3, 60, 60), (2, 3, 60, 60), (3, 2, 60, 60), (3, 5, 25, 60), (3, 5, 60, 9)]:
            book = Book(program, "f", [[9]], rings=rings, deep=deep, room=room, fuel=fuel)
            copy = book.copied().copied()
            self.assertEqual(copy.settle(), book.settle())
            self.assertEqual(told(copy), told(book))
            for many in range(1, 6):
                for one in [book, copy]:
                    one.settle()
                answers = []
                for one in [book, copy]:
                    try:
                        answers.append(one.choose(("f",) + (5,) * many))
                    except (NoPath, Large) as error:
                        answers.append(repr(error))
                self.assertEqual(answers[0], answers[1])
                self.assertEqual(told(copy), told(book))

    def test_two_books_of_one_program(self):
        program = read_program(TEXT)
        runs = [list(args) for args in RUNS]
        one, other = Book(program, "m", runs), Book(program, "m", runs)
        one.choose(("m", 13))
        one.change("k", read_tree("(+ 1 2)"))
        self.has(other)
        self.assertEqual(other.log(), [])
        other.choose(("m", 5))
        one.back()
        self.has(one, [13])
        self.has(other, [5])
        self.refuse(NoPath, lambda: other.drop(("m", 13)), other)
        self.assertEqual(program, PROGRAM)


class Model:
    """A book told in the plainest way: all states that were, and the place of the one that is."""

    def __init__(self, program, root, runs, keywords, room):
        self.root, self.runs, self.keywords, self.room = root, runs, keywords, room
        self.states, self.at, self.log = [(program, [])], 0, []

    def paths(self, program):
        return paths_of(program, self.root, rings=self.keywords["rings"], deep=self.keywords["deep"])

    def after(self, state, deed):
        """The state that a deed makes, or None where it is refused."""
        program, choice = state
        self.log.append(f"in {deed[0]}")
        self.log.append(f"out {deed[0]}")
        if deed[0] == "choose":
            if deed[1] not in self.paths(program):
                return None
            choice = sorted({*choice, *[deed[1][:many] for many in range(2, 7)]})
        elif deed[0] == "drop":
            if deed[1] not in choice:
                return None
            choice = [path for path in choice if path[:len(deed[1])] != deed[1]]
        elif deed[0] == "change":
            try:
                other = program.changed(deed[1], deed[2])
                told_paths = self.paths(other)
            except MeltError:
                return None
            choice = [path for path in choice if path in told_paths and defs_of(other, path) == defs_of(program, path)]
            program = other
        elif deed[0] == "settle":
            try:
                choice = best_choice(program, self.root, self.runs, room=self.room, **self.keywords)[1]
            except TooMany:
                return None
        if sum(growth_of(program, path) for path in choice) > self.room:
            return None
        return (program, choice)

    def does(self, deed):
        """Whether a deed is done."""
        if deed[0] in ("back", "again"):
            self.log += [f"in {deed[0]}", f"out {deed[0]}"]
            at = self.at + (1 if deed[0] == "again" else -1)
            if not 0 <= at < len(self.states):
                return False
            self.at = at
            return True
        state = self.states[self.at]
        if deed[0] == "together":
            self.log.append("in together")
            for one in deed[1]:
                state = self.after(state, one)
                if state is None:
                    break
            self.log.append("out together")
        else:
            state = self.after(state, deed)
        if state is None:
            return False
        self.states[self.at + 1:] = [state]
        self.at += 1
        return True


class TestManyDeeds(unittest.TestCase):
    def deed(self, source, program, root, bodies):
        """Some deed, most of them such as may be done."""
        kind = source.choice(["choose"] * 5 + ["drop"] * 3 + ["change"] * 2 + ["settle", "back", "back", "again", "together"])
        numbers = [number for name in program.names() for number, called, plain in program.sites(name)] + [0]
        if kind in ("choose", "drop"):
            return (kind, (root, *[source.choice(numbers) for step in range(source.choice([1, 1, 2, 2, 3]))]))
        if kind == "change":
            return (kind, source.choice(program.names()), source.choice(bodies))
        if kind == "together":
            deeds = [self.deed(source, program, root, bodies) for step in range(source.randrange(4))]
            return (kind, [one for one in deeds if one[0] in ("choose", "drop", "change", "settle")])
        return (kind,)

    def asked(self, book, deed):
        if deed[0] == "together":
            return book.together([self.row(one) for one in deed[1]])
        return getattr(book, deed[0])(*deed[1:])

    def row(self, deed):
        if deed[0] == "change":
            return f"change {deed[1]} {show_tree(deed[2])}"
        return " ".join([deed[0]] + [str(number) for path in deed[1:] for number in path[1:]])

    def test_as_a_plain_model_does(self):
        source = random.Random(91)
        programs = [read_program(text) for text in TANGLED + [TEXT]]
        programs += [program for program in map(Program, grown_programs(60, 91)) if len(program.sites(program.names()[0])) > 1]
        done, refused = 0, 0
        for program in programs:
            root = program.names()[0]
            runs = rows_of_args(program, root)
            keywords = {"rings": source.randrange(2), "deep": source.choice([1, 2, 3]), "fuel": source.choice([20, 60])}
            room = source.choice([5, 15, 40])
            try:
                book = Book(program, root, runs, room=room, **keywords)
            except TooMany:
                continue
            model = Model(program, root, runs, keywords, room)
            bodies = [body for name, params, body in program.defs()] * 3 + [read_tree("7"), read_tree("(+ 1 2)")]
            for step in range(40):
                deed = self.deed(source, book.program(), root, bodies)
                ahead = model.states[model.at][1]
                if model.does(deed):
                    now = model.states[model.at][1]
                    gone, come = [path for path in ahead if path not in now], [path for path in now if path not in ahead]
                    self.assertEqual(self.asked(book, deed), (gone, come))
                    done += 1
                else:
                    self.assertRaises(MeltError, self.asked, book, deed)
                    refused += 1
                self.assertEqual((book.program(), book.choice()), model.states[model.at])
                self.assertEqual(book.log(), model.log)
                if source.random() < 0.1:
                    book = book.copied()
        self.assertGreater(done, 300)
        self.assertGreater(refused, 300)


if __name__ == "__main__":
    unittest.main()
