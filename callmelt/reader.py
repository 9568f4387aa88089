"""Texts read back to trees.

A text is first taken apart with no regard to its blanks, and what comes of it is
then written again: only where that is the very text was the text written as told.
"""

from callmelt.errors import NoText
from callmelt.texts import show_tree
from callmelt.trees import FORMS, MOST_DEPTH, SIGNS, is_tree
from callmelt.words import FIGURES, KEPT

# As many as the largest number has; int() must not see a text of thousands of figures.
MOST_FIGURES = 10


def read_tree(text):
    """The tree of which a thing is the text, refused with NoText where there is none."""
    if not isinstance(text, str):
        raise NoText("what is no text is not the text of a tree")
    tree = tree_of(only_piece(text))
    if show_tree(tree) != text:
        raise NoText("a tree, but not written as it must be")
    return tree


def only_piece(text):
    """The one piece that a text is: a text without brackets, or the list of the pieces in a bracket."""
    within = [[]]
    for token in text.replace("(", " ( ").replace(")", " ) ").split(" "):
        if token == "(":
            within.append([])
        elif token == ")":
            if len(within) == 1:
                raise NoText("a bracket is closed that was never begun")
            closed = within.pop()
            within[-1].append(closed)
        elif token != "":
            within[-1].append(token)
    if len(within) != 1 or len(within[0]) != 1:
        raise NoText("not one whole thing")
    return within[0][0]


def tree_of(piece):
    """The tree that a piece tells."""
    tree = likely_tree(piece, 1)
    if not is_tree(tree):
        raise NoText("not a tree, or too large")
    return tree


def likely_tree(piece, depth):
    """What a piece tells, where it is a tree; whether it is one is for is_tree to say."""
    # Brackets may stand within one another in thousands, further than a call within calls can follow.
    if depth > MOST_DEPTH:
        raise NoText("too deep")
    if isinstance(piece, str):
        return likely_plain(piece)
    if not piece or not isinstance(piece[0], str):
        raise NoText("a bracket that begins with none of the words and signs")
    kind = kind_told(piece[0])
    rest = piece[1:] if kind in KEPT else piece
    pieces = row_gathered(FORMS[kind], rest)
    if len(pieces) != len(FORMS[kind]):
        raise NoText("too many or too few things in a bracket")
    fields = [likely_field(form, one, depth) for form, one in zip(FORMS[kind], pieces)]
    return (kind, *fields)


def likely_plain(text):
    """The number, truth or name that a text without brackets tells."""
    if is_figures(text):
        return ("number", number_of(text))
    if text in ("yes", "no"):
        return ("truth", text == "yes")
    return ("name", text)


def kind_told(head):
    """The kind of a tree in brackets that begin with this text."""
    if head in SIGNS:
        return "do"
    # The other kinds are words like any other: a def may have their names.
    if head not in KEPT:
        return "call"
    if head not in FORMS:
        raise NoText("a kept word that begins no tree")
    return head


def row_gathered(form, pieces):
    """The pieces, those that make a row as one list; where a tree has a row, it is the last of its fields."""
    if form[-1] != "row":
        return pieces
    ahead = len(form) - 1
    return pieces[:ahead] + [pieces[ahead:]]


def likely_field(form, piece, depth):
    """What a piece tells in one place of a tree that stands at this depth."""
    if form == "tree":
        return likely_tree(piece, depth + 1)
    if form == "row":
        return tuple([likely_tree(part, depth + 1) for part in piece])
    if form == "bonds":
        return likely_bonds(piece, depth)
    if form in ("amount", "place"):
        return number_of(piece)
    return piece


def likely_bonds(piece, depth):
    """The row of a melt that a piece tells."""
    if not isinstance(piece, list):
        raise NoText("a melt without the brackets of its row")
    if any([not isinstance(bond, list) or len(bond) != 2 for bond in piece]):
        raise NoText("not a word and a tree in a melt's row")
    return tuple([(word, likely_tree(part, depth + 1)) for word, part in piece])


def number_of(piece):
    """The number that a piece tells in figures."""
    if not isinstance(piece, str) or not is_figures(piece) or len(piece) > MOST_FIGURES:
        raise NoText("no number, or one too large")
    return int(piece)


def is_figures(text):
    """Whether a text is made of figures; isdigit would let those of other alphabets through."""
    return text != "" and all([sign in FIGURES for sign in text])
