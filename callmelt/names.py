"""Names: where their words are bound, and where they stand free."""

from callmelt.trees import counted_parts, words_bound


def free_words(tree):
    """The words of names that nothing around them in the tree binds, sorted."""
    return sorted({one[1] for one, bound in scoped_nodes(tree, ()) if one[0] == "name" and one[1] not in bound})


def bound_words(tree):
    """All words that are bound anywhere in a tree, sorted."""
    return sorted({word for one, bound in scoped_nodes(tree, ()) for word in words_bound(one)})


def all_words(tree):
    """All words of names, and all words bound, that stand anywhere in a tree, sorted."""
    named = [one[1] for one, bound in scoped_nodes(tree, ()) if one[0] == "name"]
    return sorted(set(named + bound_words(tree)))


def scoped_nodes(tree, bound):
    """The nodes of a tree, each ahead of its parts, with the words bound where it stands: these and those within."""
    found = []
    waiting = [(tree, bound)]
    while waiting:
        one, around = waiting.pop()
        found.append((one, around))
        waiting.extend(scoped_parts(one, around)[::-1])
    return found


def scoped_parts(tree, bound):
    """The counted parts of a tree, each with the words bound in it."""
    parts = counted_parts(tree)
    words = words_bound(tree)
    if not words:
        return [(part, bound) for part in parts]
    # Whatever binds words binds them in its body alone, and that stands last.
    return [(part, bound) for part in parts[:-1]] + [(parts[-1], bound + words)]
