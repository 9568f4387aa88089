"""Values: numbers, truths and tuples of values, within bounds."""

from callmelt.words import is_whole

FARTHEST = 10 ** 18
MOST_VALUES = 4
MOST_PARTS = 40


def is_value(thing):
    """Whether a thing is a value."""
    # Counted on the way, so that what is too large or too deep is left as soon as that is seen.
    count = 0
    waiting = [thing]
    while waiting:
        one = waiting.pop()
        count += 1
        if count > MOST_PARTS or not is_value_outside(one):
            return False
        waiting.extend(values_in(one))
    return True


def are_values(thing, many):
    """Whether a thing is a list of so many values."""
    return isinstance(thing, list) and len(thing) == many and all([is_value(one) for one in thing])


def parts_in(value):
    """How many parts a value has: itself, and those of the values in it."""
    count = 0
    waiting = [value]
    while waiting:
        one = waiting.pop()
        count += 1
        waiting.extend(values_in(one))
    return count


def same(one, other):
    """Whether two values are the same."""
    waiting = [(one, other)]
    while waiting:
        left, right = waiting.pop()
        # Python takes 1 and True for equal, within tuples too, so each value in them is asked by itself.
        if left != right or isinstance(left, bool) != isinstance(right, bool):
            return False
        waiting.extend(list(zip(values_in(left), values_in(right))))
    return True


def is_value_outside(thing):
    """Whether a thing is a value as far as can be seen without looking into its values."""
    if isinstance(thing, bool):
        return True
    if isinstance(thing, tuple):
        return len(thing) <= MOST_VALUES
    return is_whole(thing) and is_near(thing)


def is_near(number):
    """Whether a number is within the bounds of values."""
    return -FARTHEST <= number <= FARTHEST


def values_in(value):
    """The values that a value has: none but where it is a tuple."""
    return value if isinstance(value, tuple) else ()
