"""Books: a program and a choice, kept over deeds that may be taken back and done again."""

from callmelt.choices import melted
from callmelt.errors import MeltError, NoRow, Nothing, Stopped
from callmelt.forests import ROOM
from callmelt.paths import DEEP, RINGS, paths_of
from callmelt.rows import read_row
from callmelt.runs import FUEL
from callmelt.savings import saved
from callmelt.steps import STEPS, Terms, growth_in
from callmelt.tallies import check_runs


class Book:
    """A program and a choice of a root, and the deeds by which they came to be."""

    def __init__(self, program, root, runs, *, rings=RINGS, deep=DEEP, room=ROOM, fuel=FUEL):
        # Asked for its refusals alone.
        paths_of(program, root, rings=rings, deep=deep)
        check_runs(program, root, runs)
        self.terms = Terms(root, runs, rings, deep, room, fuel)
        # States are tuples (program, choice), which no deed changes: each makes a new one.
        self.state = (program, [])
        self.ahead = []
        self.undone = []
        self.ends = []

    def program(self):
        """The program."""
        return self.state[0]

    def choice(self):
        """The choice."""
        return list(self.state[1])

    def body(self):
        """The root's body melted by the choice."""
        return melted(self.state[0], self.terms.root, self.state[1])

    def growth(self):
        """How much larger the choice makes the root's body."""
        return growth_in(self.state)

    def saved(self):
        """What the choice saves on the runs."""
        return saved(self.state[0], self.terms.root, self.state[1], self.terms.runs, fuel=self.terms.fuel)

    def choose(self, path):
        """Choose a path and all its beginnings."""
        return self.done(self.stepped(self.state, ("choose", path)))

    def drop(self, path):
        """Choose a path, and all that go on from it, no more."""
        return self.done(self.stepped(self.state, ("drop", path)))

    def change(self, name, body):
        """Put another body in a def, and let fall the paths that are not the same any longer."""
        return self.done(self.stepped(self.state, ("change", name, body)))

    def settle(self):
        """Choose the best choice."""
        return self.done(self.stepped(self.state, ("settle",)))

    def back(self):
        """Take back the last deed."""
        self.ends.extend(["in back", "out back"])
        return self.turned(self.ahead, self.undone)

    def again(self):
        """Do again the last deed that was taken back."""
        self.ends.extend(["in again", "out again"])
        return self.turned(self.undone, self.ahead)

    def together(self, rows):
        """Do the deeds that rows tell, as one, or none of them."""
        self.ends.append("in together")
        try:
            state = self.stepped_by_rows(rows)
        finally:
            self.ends.append("out together")
        return self.done(state)

    def log(self):
        """Both ends of each deed that was asked, in the order in which they came."""
        return list(self.ends)

    def copied(self):
        """Another book that tells the same and goes on by itself."""
        terms = self.terms
        other = Book(
            self.state[0], terms.root, terms.runs,
            rings=terms.rings, deep=terms.deep, room=terms.room, fuel=terms.fuel,
        )
        other.state = self.state
        other.ahead = list(self.ahead)
        other.undone = list(self.undone)
        other.ends = list(self.ends)
        return other

    def stepped(self, state, asked):
        """The state that a deed makes of this one; both its ends are logged, whatever comes of it."""
        word, *things = asked
        step = STEPS[word]
        self.ends.append("in " + word)
        try:
            return step(self.terms, state, *things)
        finally:
            self.ends.append("out " + word)

    def stepped_by_rows(self, rows):
        """The state that the deeds of rows make, one after another."""
        if not isinstance(rows, list):
            raise Stopped(0)
        state = self.state
        for at, row in enumerate(rows):
            try:
                state = self.stepped(state, read_step(self.terms.root, row))
            except MeltError:
                raise Stopped(at) from None
        return state

    def done(self, state):
        """A deed is done that makes this state: what it tells."""
        self.ahead.append(self.state)
        self.undone = []
        return self.moved(state)

    def turned(self, states, others):
        """The last of these states is the book's again, and the one it had the last of the others: what that tells."""
        if not states:
            raise Nothing("no deed to take back, or to do again")
        others.append(self.state)
        return self.moved(states.pop())

    def moved(self, state):
        """This state is the book's from now on: the paths chosen ahead but not now, and the ones now but not ahead."""
        before, after = self.state[1], state[1]
        self.state = state
        return ([path for path in before if path not in after], [path for path in after if path not in before])


def read_step(root, row):
    """What a row asks, refused with NoRow where that is nothing that may be done together with others."""
    asked = read_row(root, row)
    if asked[0] not in STEPS:
        raise NoRow("no deed to be done together with others")
    return asked
