"""Trees: what is one, what stands in it, and how large it is."""

from callmelt.words import is_whole, is_word

MOST_NODES = 2000
MOST_DEPTH = 64
MOST_IN_ROW = 4
MOST_PICKED = 4
LARGEST_NUMBER = 10 ** 9
PLAIN = ("number", "truth", "name")
SIGNS = ("+", "-", "*", "/", "<", "=")

# What stands behind the kind in a tree of each kind. All that walks, checks, writes
# or reads trees goes by this one table, so that a form is told in one place.
FORMS = {
    "number": ("amount",),
    "truth": ("truth",),
    "name": ("word",),
    "do": ("sign", "tree", "tree"),
    "parts": ("row",),
    "pick": ("place", "tree"),
    "many": ("tree",),
    "if": ("tree", "tree", "tree"),
    "let": ("word", "tree", "tree"),
    "loop": ("word", "tree", "word", "tree", "tree"),
    "raise": ("word",),
    "try": ("tree", "word", "tree"),
    "mark": ("amount", "tree"),
    "call": ("word", "row"),
    "melt": ("word", "bonds", "tree"),
}


def is_tree(thing):
    """Whether a thing is a tree within the bounds of size and depth."""
    # Counted on the way, so that what shares its parts is left as soon as it is too large.
    count = 0
    waiting = [(thing, 1)]
    while waiting:
        one, depth = waiting.pop()
        count += 1
        if count > MOST_NODES or depth > MOST_DEPTH or not is_shaped(one):
            return False
        waiting.extend([(part, depth + 1) for part in counted_parts(one)])
    return True


def is_plain(tree):
    """Whether a tree is a number, a truth or a name."""
    return kind_of(tree) in PLAIN


def size_of(tree):
    """How many nodes a tree has."""
    return len(counted_nodes(tree))


def depth_of(tree):
    """How deep a tree is, 1 where it has no parts."""
    deepest = 0
    waiting = [(tree, 1)]
    while waiting:
        one, depth = waiting.pop()
        deepest = max(deepest, depth)
        waiting.extend([(part, depth + 1) for part in parts_of(one)])
    return deepest


def thawed(tree):
    """The tree with each melt made a call again."""
    if tree[0] == "melt":
        return ("call", tree[1], tuple([thawed(part) for word, part in tree[2]]))
    return rebuilt(tree, thawed)


def nodes(tree):
    """All trees in a tree thawed, each ahead of its parts; a node's number is its place here."""
    # A tree thawed bears no melts, so all its nodes are counted ones.
    return counted_nodes(thawed(tree))


def kind_of(thing):
    """The kind that a thing has where it is a tree; "" where it cannot be one."""
    if isinstance(thing, tuple) and len(thing) > 0 and isinstance(thing[0], str):
        return thing[0]
    return ""


def is_shaped(thing):
    """Whether a thing is a tree as far as can be seen without looking into its parts."""
    kind = kind_of(thing)
    if kind not in FORMS or len(thing) != len(FORMS[kind]) + 1:
        return False
    fitting = [fits(form, field) for form, field in zip(FORMS[kind], thing[1:])]
    return all(fitting) and binds_unlike(thing)


def fits(form, field):
    """Whether a thing may stand where the table of forms has this one."""
    if form == "amount":
        return is_whole(field) and 0 <= field <= LARGEST_NUMBER
    if form == "truth":
        return isinstance(field, bool)
    if form == "word":
        return is_word(field)
    if form == "sign":
        return isinstance(field, str) and field in SIGNS
    if form == "place":
        return is_whole(field) and 1 <= field <= MOST_PICKED
    if form == "row":
        return is_row(field)
    if form == "bonds":
        return is_row(field) and all([is_bond(thing) for thing in field])
    return True


def is_row(thing):
    """Whether a thing is a tuple of as many things as may stand in a row."""
    return isinstance(thing, tuple) and len(thing) <= MOST_IN_ROW


def is_bond(thing):
    """Whether a thing is a word and a tree, as in a melt's row; a tree that is not plain is not looked into."""
    if not isinstance(thing, tuple) or len(thing) != 2:
        return False
    # Plain trees are no counted parts: nothing behind this looks at them.
    return is_word(thing[0]) and (not is_plain(thing[1]) or is_shaped(thing[1]))


def binds_unlike(tree):
    """Whether the words that a tree binds beside one another are unlike."""
    words = words_bound(tree)
    return len(set(words)) == len(words)


def words_bound(tree):
    """The words that a tree itself binds, in the order in which they stand."""
    if tree[0] == "let":
        return (tree[1],)
    if tree[0] == "loop":
        return (tree[1], tree[3])
    if tree[0] == "melt":
        return tuple([word for word, part in binding_row(tree)])
    return ()


def binding_row(melt):
    """What a melt's row has of trees that are not plain: a plain one binds nothing."""
    return [(word, part) for word, part in melt[2] if not is_plain(part)]


def parts_of(tree):
    """The trees that stand in a tree, in order."""
    found = []
    for form, field in zip(FORMS[tree[0]], tree[1:]):
        if form == "tree":
            found.append(field)
        elif form == "row":
            found.extend(field)
        elif form == "bonds":
            found.extend([part for word, part in field])
    return found


def counted_parts(tree):
    """The parts whose nodes are nodes of the tree: all but the plain ones in a melt's row."""
    if tree[0] == "melt":
        return [part for word, part in binding_row(tree)] + [tree[3]]
    return parts_of(tree)


def written_parts(tree):
    """The parts that were written in the same body as the tree: of a melt those of its row."""
    # The row's plain trees, too: they have numbers as args of the call that the melt was.
    return parts_of(tree)[:-1] if tree[0] == "melt" else parts_of(tree)


def counted_nodes(tree):
    """The nodes of a tree, each ahead of its parts."""
    return walked(tree, counted_parts)


def written_nodes(tree):
    """What stands in a tree at each number, melts as they are."""
    return walked(tree, written_parts)


def walked(tree, parts_told):
    """A tree, what parts_told tells of it, and so on, each ahead of its parts."""
    found = []
    waiting = [tree]
    while waiting:
        one = waiting.pop()
        found.append(one)
        waiting.extend(parts_told(one)[::-1])
    return found


def rebuilt(tree, remake):
    """A tree that is no melt, with what remake makes of each part in that part's place."""
    return with_parts(tree, [remake(part) for part in parts_of(tree)])


def with_parts(tree, parts):
    """A tree that is no melt, with as many other parts in the place of its own."""
    fields = []
    at = 0
    for form, field in zip(FORMS[tree[0]], tree[1:]):
        if form == "tree":
            fields.append(parts[at])
            at += 1
        elif form == "row":
            fields.append(tuple(parts[at:at + len(field)]))
            at += len(field)
        else:
            fields.append(field)
    return (tree[0], *fields)
