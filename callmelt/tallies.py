"""Tallies: how often some runs of a root enter its paths."""

from callmelt.errors import BadRun
from callmelt.paths import DEEP, RINGS, paths_of
from callmelt.runs import FUEL, entered
from callmelt.values import are_values

MOST_RUNS = 6


def tally(program, root, runs, *, rings=RINGS, deep=DEEP, fuel=FUEL):
    """Each path of the root, with how often the runs enter it together."""
    paths = paths_of(program, root, rings=rings, deep=deep)
    check_runs(program, root, runs)
    times = times_entered(program, root, runs, fuel)
    return [(path, times.get(path, 0)) for path in paths]


def check_runs(program, root, runs):
    """Refuse what is no list of one to six lists of args of the root."""
    if not isinstance(runs, list) or len(runs) == 0:
        raise BadRun(0)
    many = len(program.params(root))
    for at, args in enumerate(runs):
        if at == MOST_RUNS or not are_values(args, many):
            raise BadRun(at)


def times_entered(program, root, runs, fuel):
    """A dict of how often the runs together enter each path that one of them enters."""
    times = {}
    for args in runs:
        for path, many in entered(program, root, args, fuel=fuel):
            times[path] = times.get(path, 0) + many
    return times
