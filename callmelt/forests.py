"""Forests: a taking that fits and is worth most, with a paper that shows it."""

from callmelt.bounds import check_items, closes, next_signs

ROOM = 60
# As much as ten items may be worth: by this rate what is too heavy, if only by 1, has a bound of 0 at most.
STEEP = 10 ** 10


def best(items, *, room=ROOM):
    """A taking that fits than which none is worth more, as a tuple (worth, taking, paper)."""
    check_items(items)
    worth, decided = best_decided(items, room)
    taking = [at for at, sign in enumerate(decided) if sign == "1"]
    return (worth, taking, paper_for(items, room, worth))


def best_decided(items, room):
    """The most that a taking which fits is worth, and the text that decides all items as that one."""
    fitting = [decided for decided in all_decided(items) if total_of(items, decided, 2) <= room]
    # In a room below 0, which none should be, not even [] fits.
    return max([(total_of(items, decided, 1), decided) for decided in fitting], default=(0, ""))


def all_decided(items):
    """The texts that decide all items, one for each taking."""
    texts = [""]
    for item in items:
        texts = [text + sign for text in texts for sign in next_signs(items, text)]
    return texts


def total_of(items, decided, field):
    """What one field of the items told as 1 comes to."""
    return sum([item[field] for item, sign in zip(items, decided) if sign == "1"])


def paper_for(items, room, worth):
    """A paper for a worth than which no taking that fits has more."""
    paper = []
    waiting = [""]
    while waiting:
        text = waiting.pop()
        closing = closing_leaves(items, room, worth, text)
        if closing:
            paper.append(closing[0])
        else:
            waiting.extend([text + sign for sign in next_signs(items, text)])
    return paper


def closing_leaves(items, room, worth, text):
    """The leaves of this text, by the likely rates, that close a worth."""
    leaves = [(text, p, q) for p, q in likely_rates(items, text)]
    return [leaf for leaf in leaves if closes(items, room, worth, leaf)]


def likely_rates(items, text):
    """The rates by which a text is likely closed: nought, a steep one, and those of the items not decided."""
    # One of the first two always closes a text that decides all items: it fits, and has no more worth, or is too heavy.
    return [(0, 1), (STEEP, 1)] + [(worth, weight) for above, worth, weight in items[len(text):] if weight > 0]
