"""The best choice: of the choices within a room none saves more on some runs."""

from callmelt.bounds import MOST_ITEMS
from callmelt.errors import TooMany
from callmelt.forests import ROOM, best
from callmelt.paths import DEEP, RINGS, gain_of, growth_of, paths_of
from callmelt.runs import FUEL
from callmelt.tallies import tally


def forest(program, root, runs, *, rings=RINGS, deep=DEEP, fuel=FUEL):
    """An item for each path of the root: its beginning, what it saves on the runs, and its growth."""
    check_few(program, root, rings, deep)
    told = tally(program, root, runs, rings=rings, deep=deep, fuel=fuel)
    places = {path: at for at, (path, many) in enumerate(told)}
    # The root alone is no path, so what goes on from it alone has None above it.
    return [(places.get(path[:-1]), gain_of(program, path) * many, growth_of(program, path)) for path, many in told]


def best_choice(program, root, runs, *, rings=RINGS, deep=DEEP, room=ROOM, fuel=FUEL):
    """What the best choice saves, that choice, and the paper that shows that none saves more."""
    items = forest(program, root, runs, rings=rings, deep=deep, fuel=fuel)
    paths = paths_of(program, root, rings=rings, deep=deep)
    worth, taking, paper = best(items, room=room)
    return (worth, [paths[at] for at in taking], paper)


def check_few(program, root, rings, deep):
    """Refuse a root that has more paths than a forest has items."""
    if len(paths_of(program, root, rings=rings, deep=deep)) > MOST_ITEMS:
        raise TooMany(MOST_ITEMS)
