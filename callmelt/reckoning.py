"""Reckoning: what comes of a tree, node by node.

A refusal goes out as the error Raised, up to a try of its word; a run without fuel
ends by the error Dry, which no try takes. Each node that is begun takes a tick, so
the calls here stand no further within one another than the fuel lets them.
"""

from callmelt.deeds import chosen, counted, do, joined, picked, rounds
from callmelt.trees import PLAIN, binding_row, is_plain, written_parts

# How many of its parts a node of these kinds always reckons; those of other kinds reckon all.
PARTS_AHEAD = {"if": 1, "let": 1, "loop": 2, "try": 0}


class Raised(Exception):
    """A refusal on its way out, with its word and its place."""

    def __init__(self, word, place):
        Exception.__init__(self, "a refusal on its way out")
        self.word = word
        self.place = place


class Dry(Exception):
    """A tick is due, and there is no fuel for it."""


class Node:
    """A tree with its place, (def, number), and its parts: those always reckoned, ahead of all else, and the others."""

    def __init__(self, tree, place, ahead, later):
        self.tree = tree
        self.place = place
        self.ahead = ahead
        self.later = later


class Scope:
    """What is bound where a node is reckoned, and the path of the body in which it was written."""

    def __init__(self, bound, path):
        self.bound = bound
        self.path = path


class Course:
    """One run of defs, as far as it has come: what it has taken, left, paid and entered."""

    def __init__(self, defs, fuel):
        self.params_of = {name: params for name, params, body in defs}
        self.body_of = {name: node_of(name, body) for name, params, body in defs}
        self.fuel = fuel
        self.ticks = 0
        self.price = 0
        self.marks = []
        self.entries = {}


def node_of(home, tree):
    """The node of a tree that is, or stands for, the whole body of the def home."""
    return numbered(home, tree, 0)[0]


def numbered(home, tree, number):
    """The node of a tree that has this number, and the number of the next node behind all in it."""
    behind = number + 1
    parts = []
    for part in written_parts(tree):
        node, behind = numbered(home, part, behind)
        parts.append(node)
    if tree[0] == "melt":
        ahead = [node for node in parts if not is_plain(node.tree)]
        later = [node_of(tree[1], tree[3])]
    else:
        many = PARTS_AHEAD.get(tree[0], len(parts))
        ahead, later = parts[:many], parts[many:]
    return Node(tree, (home, number), ahead, later), behind


def finish_do(course, node, scope, values):
    """What the sign does with both values."""
    return done(node, do(node.tree[1], values[0], values[1]))


def finish_parts(course, node, scope, values):
    """The tuple of the values."""
    return done(node, joined(values))


def finish_pick(course, node, scope, values):
    """One of the values in the value."""
    return done(node, picked(node.tree[1], values[0]))


def finish_many(course, node, scope, values):
    """How many values the value has."""
    return done(node, counted(values[0]))


def finish_if(course, node, scope, values):
    """The one of two parts that the test means."""
    test = done(node, chosen(values[0]))
    return reckon(course, node.later[0] if test else node.later[1], scope)


def finish_let(course, node, scope, values):
    """The body, with the word bound."""
    return reckon(course, node.later[0], with_bound(scope, {node.tree[1]: values[0]}))


def finish_loop(course, node, scope, values):
    """The body so many times, each with a tick of its own."""
    value = values[0]
    for turn in range(done(node, rounds(values[1]))):
        take_tick(course)
        value = reckon(course, node.later[0], with_bound(scope, {node.tree[1]: value, node.tree[3]: turn}))
    return value


def finish_raise(course, node, scope, values):
    """A refusal with the node's own word."""
    return done(node, ("refused", node.tree[1]))


def finish_try(course, node, scope, values):
    """The body, or the other part where that is refused with the node's word."""
    try:
        return reckon(course, node.later[0], scope)
    except Raised as refusal:
        if refusal.word != node.tree[2]:
            raise
    return reckon(course, node.later[1], scope)


def finish_mark(course, node, scope, values):
    """The value, once the mark is left."""
    course.marks.append(node.tree[1])
    return values[0]


def finish_call(course, node, scope, values):
    """The def's body, with its params, and nothing else, bound."""
    name = node.tree[1]
    course.price += 2 + len(values)
    path = path_on(node, scope)
    course.entries[path] = course.entries.get(path, 0) + 1
    return reckon(course, course.body_of[name], Scope(dict(zip(course.params_of[name], values)), path))


def finish_melt(course, node, scope, values):
    """The melt's body, with what its row binds bound above what is bound around."""
    course.price += len(values)
    words = [word for word, part in binding_row(node.tree)]
    inner = Scope(scope.bound, path_on(node, scope))
    return reckon(course, node.later[0], with_bound(inner, dict(zip(words, values))))


# What comes of a node of each kind that takes a tick, once the values of its parts ahead are there.
FINISHES = {
    "do": finish_do,
    "parts": finish_parts,
    "pick": finish_pick,
    "many": finish_many,
    "if": finish_if,
    "let": finish_let,
    "loop": finish_loop,
    "raise": finish_raise,
    "try": finish_try,
    "mark": finish_mark,
    "call": finish_call,
    "melt": finish_melt,
}


def reckon(course, node, scope):
    """The value of a node."""
    kind = node.tree[0]
    if kind == "name":
        return scope.bound[node.tree[1]]
    if kind in PLAIN:
        return node.tree[1]
    take_tick(course)
    values = []
    for part in node.ahead:
        values.append(reckon(course, part, scope))
    finish = FINISHES[kind]
    return finish(course, node, scope, values)


def take_tick(course):
    """One tick, or Dry where as many were taken as there is fuel."""
    if course.ticks >= course.fuel:
        raise Dry("no fuel for a tick")
    course.ticks += 1


def done(node, told):
    """The value that a deed of this node tells; what it refuses goes out from the node's place."""
    if told[0] == "refused":
        raise Raised(told[1], node.place)
    return told[1]


def with_bound(scope, values):
    """A scope like this one, with words bound to values above what is bound there."""
    return Scope({**scope.bound, **values}, scope.path)


def path_on(node, scope):
    """The path of the body that a call or a melt begins."""
    return scope.path + (node.place[1],)
