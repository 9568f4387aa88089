"""Choices: which paths of a root are melted, and the root's body melted by them."""

from callmelt.errors import NoChoice
from callmelt.melts import melted_call
from callmelt.paths import is_path_of
from callmelt.trees import is_tree, parts_of, with_parts, written_nodes
from callmelt.words import is_word

MOST_CHOSEN = 40


def is_choice(program, root, thing):
    """Whether a thing is a choice of a root."""
    return is_root(program, root) and first_wrong(program, root, thing) is None


def melted(program, root, choice):
    """The root's body melted by a choice."""
    check_choice(program, root, choice)
    return melted_body(program, {path: True for path in choice}, (root,), program.body(root))


def choice_of(root, tree):
    """The choice by which a root's body was melted: the paths of all melts in it, sorted."""
    found = []
    waiting = [((root,), tree)]
    while waiting:
        path, body = waiting.pop()
        melts = [(path + (number,), node[3]) for number, node in enumerate(written_nodes(body)) if node[0] == "melt"]
        found.extend([longer for longer, inner in melts])
        waiting.extend(melts)
    return sorted(found)


def is_melted(program, root, thing):
    """Whether a thing is the root's body melted by some choice."""
    if not is_root(program, root) or not is_tree(thing):
        return False
    # A melted body tells its choice, so no other one has to be tried.
    choice = choice_of(root, thing)
    return is_choice(program, root, choice) and melted(program, root, choice) == thing


def is_root(program, thing):
    """Whether a thing is the name of a def of the program."""
    return is_word(thing) and thing in program.names()


def check_choice(program, root, thing):
    """Refuse what is no def's name, and what is no choice of that root."""
    # Asked for its refusal alone.
    program.place_of(root)
    at = first_wrong(program, root, thing)
    if at is not None:
        raise NoChoice(at)


def first_wrong(program, root, thing):
    """The first place at which a thing is no choice of a root; None where it is one."""
    if not isinstance(thing, list):
        return 0
    for at, path in enumerate(thing):
        if at == MOST_CHOSEN or not is_path_of(program, root, path) or not stands_behind(path, thing[:at]):
            return at
    return None


def stands_behind(path, ahead):
    """Whether a path may stand in a choice behind those ahead: it is greater, and goes on from one of them."""
    if ahead and path <= ahead[-1]:
        return False
    # A path of one number goes on from the root alone, which is no path.
    return len(path) == 2 or path[:-1] in ahead


def melted_body(program, chosen, path, body):
    """A body with each call melted whose path is chosen, where the calls on this path have begun it."""
    return melted_from(program, chosen, path, body, 0)[0]


def melted_from(program, chosen, path, tree, number):
    """A tree of that body melted, which has this number, and the number of the next node behind all in it."""
    behind = number + 1
    parts = []
    for part in parts_of(tree):
        part_melted, behind = melted_from(program, chosen, path, part, behind)
        parts.append(part_melted)
    whole = with_parts(tree, parts)
    longer = path + (number,)
    if longer in chosen:
        # The def's own body is put in first: it is that one whose calls have the numbers that paths tell.
        kind, called, row, body = melted_call(program, whole)
        whole = (kind, called, row, melted_body(program, chosen, longer, body))
    return whole, behind
