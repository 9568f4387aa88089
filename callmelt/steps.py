"""Steps: what the deeds of a book make of a state, its program and its choice.

A step changes nothing: it tells the state that is then, or refuses. So a book
whose deed is refused is as it was.
"""

from callmelt.best import best_choice
from callmelt.errors import Large, NoPath
from callmelt.paths import defs_of, growth_of, is_shaped_path, paths_of


class Terms:
    """What a book was made of, beside its program."""

    def __init__(self, root, runs, rings, deep, room, fuel):
        self.root = root
        self.runs = [list(args) for args in runs]
        self.rings = rings
        self.deep = deep
        self.room = room
        self.fuel = fuel


def step_choose(terms, state, path):
    """The path and its beginnings are chosen, too."""
    program, choice = state
    check_among(path, paths_by(terms, program))
    beginnings = [path[:many] for many in range(2, len(path) + 1)]
    return within_room(terms, (program, sorted(set(choice + beginnings))))


def step_drop(terms, state, path):
    """The path, and what goes on from it, is chosen no more."""
    program, choice = state
    check_among(path, choice)
    return within_room(terms, (program, [one for one in choice if one[:len(path)] != path]))


def step_change(terms, state, name, body):
    """The program has another body for a def, and the choice what stays of it."""
    program, choice = state
    other = program.changed(name, body)
    paths = paths_by(terms, other)
    # A path's defs begin with those of its beginnings, so what stays has all of its beginnings.
    kept = [path for path in choice if path in paths and defs_of(other, path) == defs_of(program, path)]
    return within_room(terms, (other, kept))


def step_settle(terms, state):
    """The best choice is chosen."""
    program = state[0]
    told = best_choice(
        program, terms.root, terms.runs, rings=terms.rings, deep=terms.deep, room=terms.room, fuel=terms.fuel
    )
    return (program, told[1])


# The steps by the words of their deeds.
STEPS = {
    "choose": step_choose,
    "drop": step_drop,
    "change": step_change,
    "settle": step_settle,
}


def paths_by(terms, program):
    """The paths that may be chosen in a program."""
    return paths_of(program, terms.root, rings=terms.rings, deep=terms.deep)


def check_among(path, paths):
    """Refuse what is none of these paths."""
    # Python takes True for 1, within tuples too, so a path's form is asked first.
    if not is_shaped_path(path) or path not in paths:
        raise NoPath(path)


def within_room(terms, state):
    """A state, refused where its choice grows by more than the room."""
    growth = growth_in(state)
    if growth > terms.room:
        raise Large(growth)
    return state


def growth_in(state):
    """How much the choice of a state grows, all its paths together."""
    program, choice = state
    return sum([growth_of(program, path) for path in choice])
