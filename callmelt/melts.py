"""Melts: calls with their defs' bodies put in their place."""

from callmelt.puts import put_in


def melted_call(program, call):
    """The melt of a call of a def of the program."""
    name, row = call[1], call[2]
    words, body = put_in(program.params(name), row, program.body(name))
    return ("melt", name, tuple(zip(words, row)), body)
