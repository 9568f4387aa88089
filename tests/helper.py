"""Trees and other things that several tests use."""

import random

from callmelt.trees import FORMS, depth_of, nodes, size_of

ONE = ("number", 1)
YES = ("truth", True)
NAME = ("name", "a")
SUM = ("do", "+", ONE, NAME)

# One of each form at least, the edges of their fields among them.
TREES = [
    ("number", 0),
    ("number", 10 ** 9),
    ("truth", True),
    ("truth", False),
    ("name", "a"),
    ("name", "abcdefgh999"),
    ("do", "+", ONE, NAME),
    ("do", "-", SUM, YES),
    ("do", "*", ONE, ONE),
    ("do", "/", ONE, ONE),
    ("do", "<", ONE, ONE),
    ("do", "=", ONE, SUM),
    ("parts", ()),
    ("parts", (ONE,)),
    ("parts", (ONE, YES, NAME, SUM)),
    ("pick", 1, NAME),
    ("pick", 4, SUM),
    ("many", ("parts", ())),
    ("if", YES, ONE, SUM),
    ("let", "a", ONE, NAME),
    ("loop", "a", ONE, "b", SUM, ("do", "+", NAME, ("name", "b"))),
    ("raise", "a"),
    ("try", SUM, "b", ("raise", "c1")),
    ("mark", 0, ONE),
    ("mark", 10 ** 9, SUM),
    ("call", "f", ()),
    ("call", "f", (ONE, YES, NAME, SUM)),
    ("melt", "f", (), ONE),
    ("melt", "f", (("a", ONE), ("a", YES), ("a", NAME), ("a", SUM)), NAME),
    ("melt", "f", (("a", SUM), ("b", SUM), ("c", SUM), ("d", SUM)), SUM),
    # Words that are kinds of trees, and no kept words.
    ("name", "number"),
    ("call", "call", (("name", "do"),)),
    ("call", "do", (ONE, ONE)),
    ("call", "truth", (("call", "name", ()),)),
    ("melt", "number", (("call", SUM),), ("name", "call")),
]


class Odd:
    """A thing of a class that the program knows nothing of."""


# Things that are no word, no tree, no def, and no text of a tree or a program.
OTHER_THINGS = [
    None, (), [], {}, set(), b"", b"a", object(), Odd(), Odd, len, lambda: 0, range(3), ...,
    True, False, -1, "", " ", "(", ")", "%", "\n", "\u00e4", "\u0661", "A", "(,)",
    (None,), ([],), ({},), ((),), (((),),), [[]], {"a": 1}, {1: []}, frozenset([1]), 1j,
    ("number",), ("tree", 1), (1, 2), ["number", 1], (True, True), (b"number", 1), (["number"], 1),
]


def shown(thing):
    """The beginning of a thing written out, for the report of a failed test."""
    try:
        return repr(thing)[:80]
    except ValueError:
        return "a thing with a number of very many figures"


def of_size(many):
    """A tree of so many nodes, of no great depth."""
    if many == 1:
        return ONE
    if many == 2:
        return ("many", ONE)
    half = (many - 1) // 2
    return ("do", "+", of_size(half), of_size(many - 1 - half))


def of_depth(deep, inmost=ONE):
    """A tree of that depth, with another one at its end."""
    tree = inmost
    for step in range(deep - 1):
        tree = ("many", tree)
    return tree


# Each way in which a tree may stand in another one.
AROUND = [
    lambda tree: ("do", "+", tree, ONE),
    lambda tree: ("do", "+", ONE, tree),
    lambda tree: ("parts", (ONE, tree)),
    lambda tree: ("pick", 2, tree),
    lambda tree: ("many", tree),
    lambda tree: ("if", tree, ONE, ONE),
    lambda tree: ("if", ONE, tree, ONE),
    lambda tree: ("if", ONE, ONE, tree),
    lambda tree: ("let", "a", tree, ONE),
    lambda tree: ("let", "a", ONE, tree),
    lambda tree: ("loop", "a", tree, "b", ONE, ONE),
    lambda tree: ("loop", "a", ONE, "b", tree, ONE),
    lambda tree: ("loop", "a", ONE, "b", ONE, tree),
    lambda tree: ("try", tree, "a", ONE),
    lambda tree: ("try", ONE, "a", tree),
    lambda tree: ("mark", 3, tree),
    lambda tree: ("call", "f", (ONE, tree, ONE)),
    lambda tree: ("melt", "f", (("a", ONE), ("b", tree)), ONE),
    lambda tree: ("melt", "f", (("a", ONE),), tree),
]


def wrapped(around, many):
    """A tree that stands so many times in another one, in the same way."""
    tree = ("raise", "a")
    for step in range(many):
        tree = around(tree)
    return tree


def nested_tuples(deep):
    """Tuples within one another, which are no tree."""
    thing = ()
    for step in range(deep - 1):
        thing = (thing,)
    return thing


def nested_lists(deep):
    """Lists within one another."""
    thing = []
    for step in range(deep - 1):
        thing = [thing]
    return thing


def grown_trees(many, seed):
    """Trees of all forms, the same ones each time."""
    source = random.Random(seed)
    return [grown(source, source.randrange(1, 6)) for step in range(many)]


def grown(source, deep):
    """A tree of at most that depth."""
    word = lambda: source.choice(["a", "b", "c", "a1", "f", "do", "abcdefgh", "x999"])
    part = lambda: grown(source, deep - 1)
    row = lambda: tuple(part() for step in range(source.randrange(5)))
    plain = [
        lambda: ("number", source.choice([0, 1, 7, 10, 10 ** 9])),
        lambda: ("truth", source.choice([True, False])),
        lambda: ("name", word()),
        lambda: ("name", word()),
    ]
    if deep <= 1:
        return source.choice(plain)()
    return source.choice(plain[2:] + [
        lambda: ("do", source.choice("+-*/<="), part(), part()),
        lambda: ("parts", row()),
        lambda: ("pick", source.randrange(1, 5), part()),
        lambda: ("many", part()),
        lambda: ("if", part(), part(), part()),
        lambda: ("let", word(), part(), part()),
        lambda: ("loop", source.choice("ab"), part(), source.choice(["c", "a1"]), part(), part()),
        lambda: ("raise", word()),
        lambda: ("try", part(), word(), part()),
        lambda: ("mark", source.choice([0, 3, 10 ** 9]), part()),
        lambda: ("call", word(), row()),
        lambda: ("melt", word(), tuple(zip(["a", "b", "c", "x1"], row())), part()),
    ])()


def grown_programs(many, seed):
    """Lists of defs that fit one another, each fit for a program, the same ones each time."""
    source = random.Random(seed)
    return [grown_defs(source) for step in range(many)]


def grown_defs(source):
    """Two to four defs, of few words, so that words of one body stand in others, too."""
    names = ["f", "g", "h", "a"][:source.randrange(2, 5)]
    params = {name: tuple(source.sample(["a", "b", "c", "a1"], source.randrange(4))) for name in names}
    # Most calls are of defs behind, so that not all runs go round until they are dry.
    calls = {name: names[at + 1:] * 8 + names for at, name in enumerate(names)}
    return [(name, params[name], grown_body(source, params[name], calls[name], params)) for name in names]


def grown_body(source, bound, calls, params):
    """A body of at most 40 nodes in which no name stands free but of the words bound."""
    while True:
        body = grown_fit(source, list(bound), calls, params, source.randrange(3, 7))
        if size_of(body) <= 40 and depth_of(body) <= 8:
            return body


def grown_fit(source, bound, calls, params, deep):
    """A tree of at most that depth whose names are bound and whose calls, of some defs, fit their params."""
    word = lambda: source.choice(["a", "b", "c", "a1", "a2"])
    part = lambda *more: grown_fit(source, bound + list(more), calls, params, deep - 1)
    row = lambda many: tuple(part() for step in range(many))
    name = lambda: ("name", source.choice(bound)) if bound else ("number", 2)
    plain = [name, name, name, lambda: ("number", source.randrange(4)), lambda: ("number", 7), lambda: ("truth", True)]
    if deep <= 1:
        return source.choice(plain)()

    def let():
        w = word()
        return ("let", w, part(), part(w))

    def loop():
        w, v = source.sample(["a", "b", "c", "a1"], 2)
        return ("loop", w, part(), v, ("number", source.randrange(4)), part(w, v))

    def call():
        # Where there is no def behind, each call goes round.
        if len(calls) == len(params) and source.random() < 0.8:
            return name()
        f = source.choice(calls)
        return ("call", f, tuple(source.choice([name, part])() for step in params[f]))

    return source.choice(plain[:1] + [call] * 4 + [let] * 3 + [loop] * 3 + [
        lambda: ("do", source.choice("+-*+-*/<="), part(), part()),
        lambda: ("do", source.choice("+-*"), part(), part()),
        lambda: ("parts", row(source.randrange(4))),
        lambda: ("pick", source.randrange(1, 4), ("parts", row(3))),
        lambda: ("if", ("do", source.choice("<=="), part(), part()), part(), part()),
        lambda: ("many", source.choice([("parts", row(2)), name()])),
        lambda: source.choice([("raise", source.choice(["kind", "far", "c"])), name()]),
        lambda: ("try", part(), source.choice(["kind", "lack", "c"]), part()),
        lambda: ("mark", source.randrange(100), part()),
    ])()


def replaced(tree, number, remake):
    """A tree that bears no melts, with what remake makes of the node of that number in its place."""
    return replaced_from(tree, number, remake, 0)[0]


def replaced_from(thing, number, remake, at):
    """What replaced tells, of a tree whose number is at; and the number of the next one behind it."""
    kept, behind = [], at + 1
    for one in thing:
        if isinstance(one, tuple) and one and isinstance(one[0], str):
            one, behind = replaced_from(one, number, remake, behind)
        elif isinstance(one, tuple):
            row = []
            for part in one:
                part, behind = replaced_from(part, number, remake, behind)
                row.append(part)
            one = tuple(row)
        kept.append(one)
    return (remake(thing) if at == number else tuple(kept)), behind


def remade(tree, numbers, remake):
    """A tree that may bear melts, with what remake makes of the node at these numbers, each but the last a melt's."""
    number, rest = numbers[0], numbers[1:]
    if number == 0:
        return tree[:3] + (remade(tree[3], rest, remake),) if rest else remake(tree)
    behind = 1

    def part(one):
        nonlocal behind
        ahead, behind = behind, behind + len(nodes(one))
        return remade(one, (number - ahead,) + rest, remake) if ahead <= number < behind else one

    fields = []
    for form, field in zip(FORMS[tree[0]], tree[1:]):
        if form == "tree" and tree[0] != "melt":
            field = part(field)
        elif form == "row":
            field = tuple([part(one) for one in field])
        elif form == "bonds":
            field = tuple([(word, part(one)) for word, one in field])
        fields.append(field)
    return (tree[0], *fields)


def grown_choices(program, root, many, seed):
    """Choices of a root, the same ones each time, none of them empty; none where the root has no calls."""
    source = random.Random(seed)
    found = [grown_choice(source, program, root, source.choice([1, 2, 3, 5, 8, 13, 40])) for step in range(many)]
    return [choice for choice in found if choice]


def grown_choice(source, program, root, most):
    """A choice of at most so many paths, each of which goes on from the root or from one ahead."""
    # What may be chosen next: a path, and the def that is called last on it.
    open_paths = [((root, number), called) for number, called, plain in program.sites(root)]
    choice = []
    while open_paths and len(choice) < most:
        path, called = open_paths.pop(source.randrange(len(open_paths)))
        choice.append(path)
        if len(path) <= 5:
            open_paths.extend([(path + (number,), further) for number, further, plain in program.sites(called)])
    return sorted(choice)


def rows_of_args(program, name):
    """Some lists of args for a def."""
    many = len(program.params(name))
    return [[2] * many, [0, 1, 2, 3][:many], [True, (1, 2), -1, ()][:many], [(3, 0, 7), 5, 1, False][:many]]


# A program whose def m calls others once where its first arg is less, and else as often as its second tells.
BRANCHING = """(def m (a b) (if (< a b) (+ (f a) (f (f b))) (loop c a d b (g c))))
(def f (a) (* (k) a))
(def g (a) (mark 1 (f a)))
(def k () 9)
(def r (a) (+ (k) (r a)))"""

# Programs whose defs share their words, and call one another in args, loops, tries and bodies.
TANGLED = [
    """(def m (a b) (try (loop c a d 3 (+ (g c b) (f d (f b c)))) far (mark 1 (g b a))))
(def g (b a) (let c (mark 2 (+ a b)) (f c (f a b))))
(def f (a b) (let c (* (mark 3 a) b) (if (< c 100) c (h c a))))
(def h (c b) (loop a c c1 2 (- a b)))""",
    """(def m (a) (let b (f a (f (f 1 a) a)) (parts (g b) (g a) (try (g (parts b a)) kind (f b (g 1))))))
(def f (b a) (let a1 (+ a b) (g (+ a1 a))))
(def g (a1) (let b a1 (let a (k b a1) (mark 4 (pick 1 a)))))
(def k (a b) (parts (+ a b) a b))""",
    """(def m (a b) (if (< a 1) (k) (+ (m (- a 1) b) (t b a))))
(def t (b a) (try (m (- b 1) a) nought (mark 9 (/ a b))))
(def k () (let a 7 (mark 5 a)))""",
    """(def m () (loop a (k) b 2 (r a (r b (k)))))
(def r (b a) (loop b1 a a1 b (s b1 (+ a1 b))))
(def s (a b) (let b1 (* a b) (if (= b1 b) (raise c) (try (s b a) c (parts b1 b a)))))
(def k () 3)""",
]


def grown_forests(many, seed):
    """Forests of at most seven items, each with a room, the same ones each time."""
    source = random.Random(seed)
    return [(grown_items(source, source.randrange(8)), source.randrange(40)) for step in range(many)]


def grown_items(source, many):
    """So many items, most of which stand under another one."""
    far = source.choice([5, 30, 10 ** 9])
    lightest = source.choice([-40, -3, 0, 1])
    return [
        (source.choice([None] + list(range(at))), source.randrange(far + 1), source.randint(lightest, 20))
        for at in range(many)
    ]


def all_takings(items):
    """All takings of a forest."""
    takings = [[]]
    for at, (above, worth, weight) in enumerate(items):
        takings += [taking + [at] for taking in takings if above is None or above in taking]
    return takings


def worth_of(items, taking):
    return sum(items[at][1] for at in taking)


def weight_of(items, taking):
    return sum(items[at][2] for at in taking)
