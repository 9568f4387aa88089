"""Programs: defs that fit one another, and their texts."""

from callmelt.errors import Astray, BadDef, Loose, NoDef, NoText, Twice, Unfit
from callmelt.names import scoped_nodes
from callmelt.reader import only_piece, tree_of
from callmelt.texts import in_brackets, show_tree
from callmelt.trees import counted_nodes, depth_of, is_plain, is_tree, nodes, size_of
from callmelt.words import is_word

MOST_DEFS = 8
MOST_PARAMS = 4
MOST_BODY_NODES = 40
MOST_BODY_DEPTH = 8


class Program:
    """One to eight defs, tuples (name, params, body), that call one another."""

    def __init__(self, defs):
        check_each(defs)
        check_bodies(defs)
        self.rows = list(defs)
        self.places = {row[0]: at for at, row in enumerate(defs)}

    def defs(self):
        """The list of the defs."""
        return list(self.rows)

    def names(self):
        """The names of the defs, in their order."""
        return [row[0] for row in self.rows]

    def params(self, name):
        """The params of the def of that name."""
        return self.rows[self.place_of(name)][1]

    def body(self, name):
        """The body of the def of that name."""
        return self.rows[self.place_of(name)][2]

    def sites(self, name):
        """The calls in a def's body: a tuple (number, def called, how many args are plain) for each."""
        return [
            (number, node[1], len([arg for arg in node[2] if is_plain(arg)]))
            for number, node in enumerate(nodes(self.body(name)))
            if node[0] == "call"
        ]

    def changed(self, name, body):
        """Another program, with this body for the def of that name."""
        at = self.place_of(name)
        row = (name, self.rows[at][1], body)
        return Program(self.rows[:at] + [row] + self.rows[at + 1:])

    def place_of(self, name):
        """The place of the def of that name."""
        # Only a word is looked up: some things can be no key of a dict.
        if not is_word(name) or name not in self.places:
            raise NoDef(name)
        return self.places[name]

    def __len__(self):
        return len(self.rows)

    def __eq__(self, other):
        return isinstance(other, Program) and self.rows == other.rows

    def __repr__(self):
        return f"Program({len(self.rows)})"


def check_each(defs):
    """Refuse what is no list of one to eight defs of unlike names."""
    if not isinstance(defs, list) or len(defs) == 0:
        raise BadDef(0)
    names = {}
    for at, thing in enumerate(defs):
        if at == MOST_DEFS or not is_def(thing):
            raise BadDef(at)
        if thing[0] in names:
            raise Twice(thing[0])
        names[thing[0]] = True


def is_def(thing):
    """Whether a thing is a name, params and a body."""
    if not isinstance(thing, tuple) or len(thing) != 3:
        return False
    return is_word(thing[0]) and are_params(thing[1]) and is_body(thing[2])


def are_params(thing):
    """Whether a thing is a tuple of at most four unlike words."""
    if not isinstance(thing, tuple) or len(thing) > MOST_PARAMS:
        return False
    return all([is_word(word) for word in thing]) and len(set(thing)) == len(thing)


def is_body(thing):
    """Whether a thing is a tree that may be a def's body."""
    if not is_tree(thing) or size_of(thing) > MOST_BODY_NODES or depth_of(thing) > MOST_BODY_DEPTH:
        return False
    return all([node[0] != "melt" for node in counted_nodes(thing)])


def check_bodies(defs):
    """Refuse the first name that is not bound, and the first call that fits no def."""
    many_params = {name: len(params) for name, params, body in defs}
    for name, params, body in defs:
        # A body bears no melts, so these nodes stand in the order of their numbers.
        for number, (node, bound) in enumerate(scoped_nodes(body, params)):
            check_node((name, number), node, bound, many_params)


def check_node(where, node, bound, many_params):
    """Refuse a name whose word is not among those bound, and a call that fits no def."""
    if node[0] == "name" and node[1] not in bound:
        raise Loose(where, node[1])
    if node[0] == "call":
        if node[1] not in many_params:
            raise Astray(where, node[1])
        if len(node[2]) != many_params[node[1]]:
            raise Unfit(where, len(node[2]))


def show_program(program):
    """The text of a program, a row for each def."""
    return "\n".join([show_def(row) for row in program.defs()])


def read_program(text):
    """The program of which a thing is the text, refused with NoText where it is not rows of defs."""
    if not isinstance(text, str):
        raise NoText("what is no text is not the text of a program")
    return Program([read_def(row) for row in text.split("\n")])


def show_def(row):
    """The text of a def."""
    name, params, body = row
    return in_brackets(["def", name, in_brackets(params), show_tree(body)])


def read_def(text):
    """The name, params and body that a row tells, fit for a def or not."""
    piece = only_piece(text)
    if not is_def_piece(piece):
        raise NoText("not a def with a name, params and a body")
    row = (piece[1], tuple(piece[2]), tree_of(piece[3]))
    if show_def(row) != text:
        raise NoText("a def, but not written as it must be")
    return row


def is_def_piece(piece):
    """Whether a piece is def, a word, words in brackets and one thing more."""
    if not isinstance(piece, list) or len(piece) != 4 or piece[0] != "def":
        return False
    return is_word(piece[1]) and isinstance(piece[2], list) and all([is_word(word) for word in piece[2]])
