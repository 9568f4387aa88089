"""Putting in place: trees for the params of a body, with no name caught."""

from callmelt.names import all_words, bound_words
from callmelt.trees import is_plain, rebuilt
from callmelt.words import fresh


def put_in(params, row, body):
    """A tuple of the params' words as they are written now, and the body with the row's trees for them."""
    renamed = new_words(params, row, body)
    words = []
    meant = {}
    for param, tree in zip(params, row):
        if is_plain(tree):
            words.append(param)
            meant[param] = tree
        else:
            words.append(renamed.get(param, param))
            meant[param] = ("name", words[-1])
    return (tuple(words), rewritten(body, meant, renamed))


def new_words(params, row, body):
    """The new word of each word put that the body, or a bound param, would catch."""
    put = sorted({tree[1] for tree in row if tree[0] == "name"})
    catching = bound_words(body) + [param for param, tree in zip(params, row) if not is_plain(tree)]
    taken = all_words(body) + list(params) + put
    renamed = {}
    for word in put:
        if word in catching:
            renamed[word] = fresh(word, taken)
            taken.append(renamed[word])
    return renamed


def rewritten(tree, meant, renamed):
    """A tree with what is meant by each word in the place of its names, and with what it binds renamed."""
    kind = tree[0]
    if kind == "name":
        return meant.get(tree[1], tree)
    if kind == "let":
        word = renamed.get(tree[1], tree[1])
        inner = {**meant, tree[1]: ("name", word)}
        return ("let", word, rewritten(tree[2], meant, renamed), rewritten(tree[3], inner, renamed))
    if kind == "loop":
        return rewritten_loop(tree, meant, renamed)
    return rebuilt(tree, lambda part: rewritten(part, meant, renamed))


def rewritten_loop(tree, meant, renamed):
    """A loop rewritten, which binds two words in its body alone."""
    word, turn = renamed.get(tree[1], tree[1]), renamed.get(tree[3], tree[3])
    inner = {**meant, tree[1]: ("name", word), tree[3]: ("name", turn)}
    start, count = rewritten(tree[2], meant, renamed), rewritten(tree[4], meant, renamed)
    return ("loop", word, start, turn, count, rewritten(tree[5], inner, renamed))
