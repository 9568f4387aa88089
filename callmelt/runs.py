"""Runs: what comes of a def's body for some values, what it takes, and what it enters."""

from callmelt.errors import BadRun
from callmelt.paths import MOST_NUMBERS
from callmelt.reckoning import Course, Dry, Raised, Scope, node_of, reckon
from callmelt.values import are_values

FUEL = 60


def run(program, name, args, *, fuel=FUEL, body=None):
    """What a run of a def tells, or of another body in its place: a tuple (outcome, marks, ticks, price)."""
    check_args(program, name, args)
    course = Course(program.defs(), fuel)
    tree = program.body(name) if body is None else body
    outcome = outcome_of(course, name, args, tree)
    return (outcome, course.marks, course.ticks, course.price)


def entered(program, root, args, *, deep=5, fuel=FUEL):
    """The paths of at most so many numbers that a run of the root enters, each with how often, sorted."""
    check_args(program, root, args)
    course = Course(program.defs(), fuel)
    # Told is only what was entered, whatever came of the run.
    outcome_of(course, root, args, program.body(root))
    # A run goes on further than any path, which is the root and at most five numbers.
    most = min(deep, MOST_NUMBERS)
    return sorted([(path, many) for path, many in course.entries.items() if len(path) - 1 <= most])


def check_args(program, name, args):
    """Refuse what is no def's name, and what are no args of that def."""
    if not are_values(args, len(program.params(name))):
        raise BadRun(0)


def outcome_of(course, name, args, body):
    """What comes of a body in the place of a def's, its params bound to the args."""
    scope = Scope(dict(zip(course.params_of[name], args)), (name,))
    try:
        value = reckon(course, node_of(name, body), scope)
    except Raised as refusal:
        return ("refused", refusal.word, refusal.place)
    except Dry:
        return ("dry",)
    return ("told", value)
