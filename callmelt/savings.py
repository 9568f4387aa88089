"""Savings: how much less some runs of a root pay where its body is melted by a choice."""

from callmelt.choices import check_choice, melted
from callmelt.paths import gain_of
from callmelt.runs import FUEL, run
from callmelt.tallies import check_runs, times_entered


def saved(program, root, choice, runs, *, fuel=FUEL):
    """What a choice saves on the runs: the gain of each path, each time that they enter it."""
    check_choice(program, root, choice)
    check_runs(program, root, runs)
    times = times_entered(program, root, runs, fuel)
    return sum([gain_of(program, path) * times.get(path, 0) for path in choice])


def prices(program, root, choice, runs, *, fuel=FUEL):
    """What the runs pay together with the root's own body, and with it melted by the choice."""
    body = melted(program, root, choice)
    check_runs(program, root, runs)
    own = paid(program, root, runs, fuel, program.body(root))
    return (own, paid(program, root, runs, fuel, body))


def paid(program, root, runs, fuel, body):
    """What the runs pay together with this body in the place of the root's."""
    told = [run(program, root, args, fuel=fuel, body=body) for args in runs]
    return sum([price for outcome, marks, ticks, price in told])
