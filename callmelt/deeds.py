"""Deeds: what is done with values, each told as ("told", value) or ("refused", word)."""

from callmelt.values import MOST_PARTS, is_near, parts_in, same
from callmelt.words import is_whole

MOST_ROUNDS = 50


def do(sign, one, other):
    """What a sign does with two values."""
    if sign == "=":
        return ("told", same(one, other))
    if not is_whole(one) or not is_whole(other):
        return ("refused", "kind")
    if sign == "<":
        return ("told", one < other)
    if sign == "/" and other == 0:
        return ("refused", "nought")
    number = number_told(sign, one, other)
    return ("told", number) if is_near(number) else ("refused", "far")


def number_told(sign, one, other):
    """The number that comes of a sign and two numbers, however far it is."""
    if sign == "+":
        return one + other
    if sign == "-":
        return one - other
    if sign == "*":
        return one * other
    return one // other


def joined(values):
    """The tuple of a list of values."""
    value = tuple(values)
    return ("told", value) if parts_in(value) <= MOST_PARTS else ("refused", "far")


def picked(k, value):
    """The k-th value of a value, counted from 1."""
    if not isinstance(value, tuple):
        return ("refused", "kind")
    return ("told", value[k - 1]) if k <= len(value) else ("refused", "lack")


def counted(value):
    """How many values a value has."""
    return ("told", len(value)) if isinstance(value, tuple) else ("refused", "kind")


def rounds(value):
    """How many turns a loop has whose count came to this value."""
    if not is_whole(value):
        return ("refused", "kind")
    return ("told", value) if 0 <= value <= MOST_ROUNDS else ("refused", "far")


def chosen(value):
    """The truth by which a choice is made."""
    return ("told", value) if isinstance(value, bool) else ("refused", "kind")
