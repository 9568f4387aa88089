"""Trees and other things that several tests use."""

import random

ONE = ("number", 1)
YES = ("truth", True)
NAME = ("name", "a")
SUM = ("do", "+", ONE, NAME)

# One of each form at least, the edges of their fields among them.
TREES = [
    ("number", 0),
    ("number", 10 ** 9),
    ("truth", True),
    ("truth", False),
    ("name", "a"),
    ("name", "abcdefgh999"),
    ("do", "+", ONE, NAME),
    ("do", "-", SUM, YES),
    ("do", "*", ONE, ONE),
    ("do", "/", ONE, ONE),
    ("do", "<", ONE, ONE),
    ("do", "=", ONE, SUM),
    ("parts", ()),
    ("parts", (ONE,)),
    ("parts", (ONE, YES, NAME, SUM)),
    ("pick", 1, NAME),
    ("pick", 4, SUM),
    ("many", ("parts", ())),
    ("if", YES, ONE, SUM),
    ("let", "a", ONE, NAME),
    ("loop", "a", ONE, "b", SUM, ("do", "+", NAME, ("name", "b"))),
    ("raise", "a"),
    ("try", SUM, "b", ("raise", "c1")),
    ("mark", 0, ONE),
    ("mark", 10 ** 9, SUM),
    ("call", "f", ()),
    ("call", "f", (ONE, YES, NAME, SUM)),
    ("melt", "f", (), ONE),
    ("melt", "f", (("a", ONE), ("a", YES), ("a", NAME), ("a", SUM)), NAME),
    ("melt", "f", (("a", SUM), ("b", SUM), ("c", SUM), ("d", SUM)), SUM),
    # Words that are kinds of trees, and no kept words.
    ("name", "number"),
    ("call", "call", (("name", "do"),)),
    ("call", "do", (ONE, ONE)),
    ("call", "truth", (("call", "name", ()),)),
    ("melt", "number", (("call", SUM),), ("name", "call")),
]


class Odd:
    """A thing of a class that the program knows nothing of."""


# Things that are no word, no tree, no def, and no text of a tree or a program.
OTHER_THINGS = [
    None, (), [], {}, set(), b"", b"a", object(), Odd(), Odd, len, lambda: 0, range(3), ...,
    True, False, -1, "", " ", "(", ")", "%", "\n", "\u00e4", "\u0661", "A", "(,)",
    (None,), ([],), ({},), ((),), (((),),), [[]], {"a": 1}, {1: []}, frozenset([1]), 1j,
    ("number",), ("tree", 1), (1, 2), ["number", 1], (True, True), (b"number", 1), (["number"], 1),
]


def shown(thing):
    """The beginning of a thing written out, for the report of a failed test."""
    try:
        return repr(thing)[:80]
    except ValueError:
        return "a thing with a number of very many figures"


def of_size(many):
    """A tree of so many nodes, of no great depth."""
    if many == 1:
        return ONE
    if many == 2:
        return ("many", ONE)
    half = (many - 1) // 2
    return ("do", "+", of_size(half), of_size(many - 1 - half))


def of_depth(deep, inmost=ONE):
    """A tree of that depth, with another one at its end."""
    tree = inmost
    for step in range(deep - 1):
        tree = ("many", tree)
    return tree


# Each way in which a tree may stand in another one.
AROUND = [
    lambda tree: ("do", "+", tree, ONE),
    lambda tree: ("do", "+", ONE, tree),
    lambda tree: ("parts", (ONE, tree)),
    lambda tree: ("pick", 2, tree),
    lambda tree: ("many", tree),
    lambda tree: ("if", tree, ONE, ONE),
    lambda tree: ("if", ONE, tree, ONE),
    lambda tree: ("if", ONE, ONE, tree),
    lambda tree: ("let", "a", tree, ONE),
    lambda tree: ("let", "a", ONE, tree),
    lambda tree: ("loop", "a", tree, "b", ONE, ONE),
    lambda tree: ("loop", "a", ONE, "b", tree, ONE),
    lambda tree: ("loop", "a", ONE, "b", ONE, tree),
    lambda tree: ("try", tree, "a", ONE),
    lambda tree: ("try", ONE, "a", tree),
    lambda tree: ("mark", 3, tree),
    lambda tree: ("call", "f", (ONE, tree, ONE)),
    lambda tree: ("melt", "f", (("a", ONE), ("b", tree)), ONE),
    lambda tree: ("melt", "f", (("a", ONE),), tree),
]


def wrapped(around, many):
    """A tree that stands so many times in another one, in the same way."""
    tree = ("raise", "a")
    for step in range(many):
        tree = around(tree)
    return tree


def nested_tuples(deep):
    """Tuples within one another, which are no tree."""
    thing = ()
    for step in range(deep - 1):
        thing = (thing,)
    return thing


def nested_lists(deep):
    """Lists within one another."""
    thing = []
    for step in range(deep - 1):
        thing = [thing]
    return thing


def grown_trees(many, seed):
    """Trees of all forms, the same ones each time."""
    source = random.Random(seed)
    return [grown(source, source.randrange(1, 6)) for step in range(many)]


def grown(source, deep):
    """A tree of at most that depth."""
    word = lambda: source.choice(["a", "b", "c", "a1", "f", "do", "abcdefgh", "x999"])
    part = lambda: grown(source, deep - 1)
    row = lambda: tuple(part() for step in range(source.randrange(5)))
    plain = [
        lambda: ("number", source.choice([0, 1, 7, 10, 10 ** 9])),
        lambda: ("truth", source.choice([True, False])),
        lambda: ("name", word()),
        lambda: ("name", word()),
    ]
    if deep <= 1:
        return source.choice(plain)()
    return source.choice(plain[2:] + [
        lambda: ("do", source.choice("+-*/<="), part(), part()),
        lambda: ("parts", row()),
        lambda: ("pick", source.randrange(1, 5), part()),
        lambda: ("many", part()),
        lambda: ("if", part(), part(), part()),
        lambda: ("let", word(), part(), part()),
        lambda: ("loop", source.choice("ab"), part(), source.choice(["c", "a1"]), part(), part()),
        lambda: ("raise", word()),
        lambda: ("try", part(), word(), part()),
        lambda: ("mark", source.choice([0, 3, 10 ** 9]), part()),
        lambda: ("call", word(), row()),
        lambda: ("melt", word(), tuple(zip(["a", "b", "c", "x1"], row())), part()),
    ])()
