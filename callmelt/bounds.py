"""Bounds: what no taking of a forest's items can be worth, and papers that show it leaf by leaf."""

from callmelt.errors import BadItem
from callmelt.words import is_whole

MOST_ITEMS = 10
MOST_WORTH = 10 ** 9
MOST_WEIGHT = 40
MOST_RATE = 10 ** 12


def leaf_bound(items, room, leaf):
    """The bound of a leaf: no taking that agrees and fits is worth more, times the leaf's q."""
    check_items(items)
    return bound_of(items, room, leaf)


def shows(items, room, worth, paper):
    """Whether a thing is a paper for a worth: leaves that close it, and part all takings."""
    check_items(items)
    if not isinstance(paper, list) or not all([is_leaf(items, thing) for thing in paper]):
        return False
    closing = [closes(items, room, worth, leaf) for leaf in paper]
    return all(closing) and parts_all(items, [decided for decided, p, q in paper])


def check_items(items):
    """Refuse what is no list of at most ten items."""
    if not isinstance(items, list):
        raise BadItem(0)
    for at, thing in enumerate(items):
        if at == MOST_ITEMS or not is_item(thing, at):
            raise BadItem(at)


def is_item(thing, at):
    """Whether a thing may be the item of this number."""
    if not isinstance(thing, tuple) or len(thing) != 3:
        return False
    above, worth, weight = thing
    if above is not None and not is_from_to(above, 0, at - 1):
        return False
    return is_from_to(worth, 0, MOST_WORTH) and is_from_to(weight, -MOST_WEIGHT, MOST_WEIGHT)


def is_from_to(thing, least, most):
    """Whether a thing is a whole number within these bounds."""
    return is_whole(thing) and least <= thing <= most


def bound_of(items, room, leaf):
    """The bound of a leaf of items that are known to be such."""
    decided, p, q = leaf
    total = p * room
    tops_under = [0 for item in items]
    # From the last on: when an item's turn comes, the tops of all items under it are there.
    for at in reversed(range(len(items))):
        above, worth, weight = items[at]
        rated = q * worth - p * weight + tops_under[at]
        sign = decided[at:at + 1]
        if sign == "1":
            total += rated
        elif sign == "" and above is None:
            total += max(0, rated)
        elif sign == "":
            # Lost where the item above is told as 0: then this one is not free.
            tops_under[above] += max(0, rated)
    return total


def closes(items, room, worth, leaf):
    """Whether the bound of a leaf lets no taking be worth more than this."""
    return bound_of(items, room, leaf) < leaf[2] * (worth + 1)


def is_leaf(items, thing):
    """Whether a thing is a leaf for these items."""
    if not isinstance(thing, tuple) or len(thing) != 3:
        return False
    decided, p, q = thing
    return is_decided(items, decided) and is_from_to(p, 0, MOST_RATE) and is_from_to(q, 1, MOST_RATE)


def is_decided(items, thing):
    """Whether a thing is a text that tells of the first items whether they are taken."""
    if not isinstance(thing, str) or len(thing) > len(items):
        return False
    for at, sign in enumerate(thing):
        if sign not in next_signs(items, thing[:at]):
            return False
    return True


def next_signs(items, decided):
    """The signs that may stand next behind a text: 1 only where the item above is taken, or there is none."""
    above = items[len(decided)][0]
    return "01" if above is None or decided[above] == "1" else "0"


def parts_all(items, texts):
    """Whether texts part all takings, each of which agrees with just one of them."""
    ends = set(texts)
    reached = 0
    waiting = [""]
    while waiting:
        text = waiting.pop()
        if text in ends:
            reached += 1
        elif len(text) == len(items):
            return False
        else:
            waiting.extend([text + sign for sign in next_signs(items, text)])
    # Where more texts were told, one stands twice, or is not reached.
    return reached == len(texts)
