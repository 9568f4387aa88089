"""Paths: calls in a root's body, calls in the bodies of the defs that these call, and so on."""

from callmelt.errors import NoPath, TooMany
from callmelt.trees import size_of
from callmelt.words import is_whole, is_word

RINGS = 0
DEEP = 3
MOST_NUMBERS = 5
MOST_PATHS = 40


def defs_of(program, path):
    """The root of a path and each def called on it."""
    # The path is looked at first: what is none may have no first thing.
    called_on = [called for number, called, plain in sites_on(program, path)]
    return [path[0]] + called_on


def growth_of(program, path):
    """How much larger the root's body grows where the last call of a path is melted."""
    number, called, plain = sites_on(program, path)[-1]
    return size_of(program.body(called)) - plain


def gain_of(program, path):
    """How much less is paid each time that a path is entered, where its last call is melted."""
    number, called, plain = sites_on(program, path)[-1]
    return 2 + plain


def paths_of(program, root, *, rings=RINGS, deep=DEEP):
    """All paths of a root within a depth, in whose defs none stands more than rings + 1 times, sorted."""
    found = []
    # No path has more numbers, however deep is asked.
    most = min(deep, MOST_NUMBERS)
    # The root alone is no path, but all of them go on from it.
    waiting = [((root,), (root,))]
    while waiting:
        path, defs = waiting.pop()
        further = further_paths(program, path, defs, rings)
        # Those further on have as many numbers as this one has things.
        if len(path) <= most:
            found.extend([longer for longer, more in further])
            waiting.extend(further)
        # Asked at each step: there may be far too many to seek them all.
        if len(found) > MOST_PATHS:
            raise TooMany(MOST_PATHS)
    return sorted(found)


def further_paths(program, path, defs, rings):
    """The paths with one number more, each with its defs, in which no def stands too often."""
    return [
        (path + (number,), defs + (called,))
        for number, called, plain in program.sites(defs[-1])
        if defs.count(called) <= rings
    ]


def sites_on(program, path):
    """The call that each number of a path stands for, as the program tells its calls."""
    if not is_shaped_path(path) or path[0] not in program.names():
        raise NoPath(path)
    found = []
    home = path[0]
    for number in path[1:]:
        at_number = [site for site in program.sites(home) if site[0] == number]
        if not at_number:
            raise NoPath(path)
        found.append(at_number[0])
        home = at_number[0][1]
    return found


def is_path_of(program, root, thing):
    """Whether a thing is a path of this root."""
    try:
        sites_on(program, thing)
    except NoPath:
        return False
    return thing[0] == root


def is_shaped_path(thing):
    """Whether a thing is a tuple of a word and one to five numbers."""
    if not isinstance(thing, tuple) or not 2 <= len(thing) <= MOST_NUMBERS + 1:
        return False
    return is_word(thing[0]) and all([is_whole(number) for number in thing[1:]])
