"""Rows: texts that ask something of a book, and the answers."""

from callmelt.errors import NoRow, NoText
from callmelt.paths import MOST_NUMBERS
from callmelt.reader import is_figures, read_tree
from callmelt.texts import show_tree
from callmelt.words import is_word

WITH_PATH = ("choose", "drop")
ALONE = ("settle", "back", "again", "choice", "growth", "saved", "body")
MOST_FIGURES = 3


def say(book, row):
    """The answer of a book to a row."""
    asked = read_row(book.terms.root, row)
    word = asked[0]
    if word == "choice":
        return show_paths(book.choice())
    if word == "growth":
        return f"{book.growth()}"
    if word == "saved":
        return f"{book.saved()}"
    if word == "body":
        return show_tree(book.body())
    gone, come = deed_done(book, asked)
    return show_paths(gone) + "; " + show_paths(come)


def deed_done(book, asked):
    """What a deed tells that was asked of a book."""
    word = asked[0]
    if word == "choose":
        return book.choose(asked[1])
    if word == "drop":
        return book.drop(asked[1])
    if word == "change":
        return book.change(asked[1], asked[2])
    if word == "settle":
        return book.settle()
    if word == "back":
        return book.back()
    return book.again()


def read_row(root, row):
    """What a row asks of a book with this root: a tuple of its word and what is told with it."""
    if not isinstance(row, str):
        raise NoRow("what is no text is no row")
    word, blank, rest = row.partition(" ")
    if word in WITH_PATH:
        return (word, (root,) + read_numbers(rest))
    if word == "change":
        return (word,) + read_change(rest)
    if row not in ALONE:
        raise NoRow("no word that begins a row, or something behind one that stands alone")
    return (row,)


def read_numbers(text):
    """The numbers of a path."""
    figures = text.split(" ")
    if len(figures) > MOST_NUMBERS or not all([is_number_told(one) for one in figures]):
        raise NoRow("no path's numbers")
    return tuple([int(one) for one in figures])


def is_number_told(text):
    """Whether a text is a number from 0 to 999 in figures, with no 0 ahead."""
    return is_figures(text) and len(text) <= MOST_FIGURES and (text == "0" or not text.startswith("0"))


def read_change(text):
    """The name and the tree of a change."""
    name, blank, rest = text.partition(" ")
    if not is_word(name):
        raise NoRow("no def's name")
    try:
        return (name, read_tree(rest))
    except NoText:
        raise NoRow("no tree's text") from None


def show_paths(paths):
    """Paths as their numbers."""
    shown = [" ".join([f"{number}" for number in path[1:]]) for path in paths]
    return ", ".join(shown) if shown else "none"
