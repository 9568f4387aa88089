"""The refusals.

The messages name no field: a field may be any thing, and some things, such as
numbers of very many figures, cannot be written into a message.
"""


class MeltError(ValueError):
    """Any refusal."""


class NoText(MeltError):
    """What is handed in is not the text of a tree, or of a program."""


class Nothing(MeltError):
    """There is no deed to take back, or to do again."""


class NoRow(MeltError):
    """What is handed in is no row."""


class BadDef(MeltError):
    """What stands at this place is no def, or one too many."""

    def __init__(self, at):
        MeltError.__init__(self, "no def, or one too many")
        self.at = at


class BadRun(MeltError):
    """What stands at this place is no run, or one too many."""

    def __init__(self, at):
        MeltError.__init__(self, "no run, or one too many")
        self.at = at


class BadItem(MeltError):
    """What stands at this place is no item, or one too many."""

    def __init__(self, at):
        MeltError.__init__(self, "no item, or one too many")
        self.at = at


class NoChoice(MeltError):
    """What stands at this place keeps a list from being a choice."""

    def __init__(self, at):
        MeltError.__init__(self, "no choice")
        self.at = at


class Stopped(MeltError):
    """The row at this place stopped all that was to be done together."""

    def __init__(self, at):
        MeltError.__init__(self, "stopped at a row")
        self.at = at


class Twice(MeltError):
    """Two defs have this name."""

    def __init__(self, name):
        MeltError.__init__(self, "two defs of one name")
        self.name = name


class NoDef(MeltError):
    """No def has this name."""

    def __init__(self, name):
        MeltError.__init__(self, "no def of this name")
        self.name = name


class Loose(MeltError):
    """The name at this node has a word that is not bound there."""

    def __init__(self, where, word):
        MeltError.__init__(self, "a name that is not bound")
        self.where = where
        self.word = word


class Astray(MeltError):
    """The call at this node is of a def that there is not."""

    def __init__(self, where, word):
        MeltError.__init__(self, "a call of no def")
        self.where = where
        self.word = word


class Unfit(MeltError):
    """The call at this node has so many args, and its def has not as many params."""

    def __init__(self, where, many):
        MeltError.__init__(self, "a call with too many or too few args")
        self.where = where
        self.many = many


class NoPath(MeltError):
    """What is handed in is no path that is meant here."""

    def __init__(self, path):
        MeltError.__init__(self, "no path")
        self.path = path


class TooMany(MeltError):
    """There are more paths than this number, the most that there may be."""

    def __init__(self, number):
        MeltError.__init__(self, "too many paths")
        self.number = number


class Large(MeltError):
    """The choice would grow by this number, which is more than the room."""

    def __init__(self, number):
        MeltError.__init__(self, "more than the room")
        self.number = number
