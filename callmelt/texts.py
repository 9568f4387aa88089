"""The texts of trees."""

from callmelt.trees import FORMS, is_plain

# A do is known by its sign, a call by its def's name: both are fields of the tree.
WITHOUT_HEAD = ("do", "call")


def show_tree(tree):
    """The one text of a tree."""
    if is_plain(tree):
        return show_plain(tree)
    things = [] if tree[0] in WITHOUT_HEAD else [tree[0]]
    for form, field in zip(FORMS[tree[0]], tree[1:]):
        things.extend(show_field(form, field))
    return in_brackets(things)


def show_plain(tree):
    """The text of a number, a truth or a name."""
    if tree[0] == "truth":
        return "yes" if tree[1] else "no"
    return f"{tree[1]}"


def show_field(form, field):
    """The texts of what stands in one place of a tree; a row has no brackets of its own."""
    if form == "tree":
        return [show_tree(field)]
    if form == "row":
        return [show_tree(part) for part in field]
    if form == "bonds":
        return [in_brackets([in_brackets([word, show_tree(part)]) for word, part in field])]
    return [f"{field}"]


def in_brackets(texts):
    """Texts side by side in round brackets."""
    return "(" + " ".join(texts) + ")"
