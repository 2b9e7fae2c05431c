"""Books: walks under names, and promises about them that are always kept."""

from areawalks.errors import BadName, Barred, NoPromise, NothingToUndo, NoWalk, Taken
from areawalks.formulas import Formula
from areawalks.names import is_name, is_walk_name


class Book:
    """Walks and promises under names, and what was there before each deed."""

    def __init__(self):
        # Dicts are put in the place of others and not changed, so that what was before is just kept.
        self.walks = {}
        self.vows = {}
        self.deeds = []

    def __getitem__(self, name):
        check_walk(self.walks, name)
        return self.walks[name]

    def __contains__(self, name):
        return is_walk_name(name) and name in self.walks

    def __iter__(self):
        raise TypeError("a book is not iterated over")

    def __len__(self):
        return len(self.walks)

    def put(self, name, walk):
        """Puts a walk under a name, in the place of an earlier one."""
        if not is_walk_name(name):
            raise BadName(name)
        self.change_walks({**self.walks, name: walk})

    def go_on(self, name, walk):
        """Puts a walk behind the one of this name."""
        check_walk(self.walks, name)
        self.change_walks({**self.walks, name: self.walks[name] * walk})

    def take(self, name):
        """Takes a walk away."""
        check_walk(self.walks, name)
        self.change_walks({other: self.walks[other] for other in self.walks if other != name})

    def keep(self, name, promise):
        """Takes up a promise, which is kept now."""
        if not is_name(name):
            raise BadName(name)
        if name in self.vows:
            raise Taken(name)
        if not promise.is_kept(self.walks):
            raise Barred([name])
        self.change(self.walks, {**self.vows, name: promise})

    def free(self, name):
        """Gives a promise up."""
        if not is_name(name) or name not in self.vows:
            raise NoPromise(name)
        self.change(self.walks, {other: self.vows[other] for other in self.vows if other != name})

    def names(self):
        """The names of the walks, ascending."""
        return tuple(sorted(self.walks))

    def promises(self):
        """The names of the promises, ascending."""
        return tuple(sorted(self.vows))

    def place(self, text):
        """The Place of a formula."""
        return Formula(text).place(self.walks)

    def undo(self):
        """Takes the last deed back that is not taken back."""
        if len(self.deeds) == 0:
            raise NothingToUndo()
        self.walks, self.vows = self.deeds.pop()

    def undoable(self):
        """How many deeds can be taken back."""
        return len(self.deeds)

    def attempt(self, action):
        """What the action returns, called with the book, which is as before if an error leaves the action."""
        walks, vows, deeds = self.walks, self.vows, list(self.deeds)
        try:
            result = action(self)
            walks, vows, deeds = self.walks, self.vows, self.deeds
        finally:
            self.walks, self.vows, self.deeds = walks, vows, deeds
        return result

    def explore(self, action):
        """What the action returns, called with the book, which is as before in any case."""
        walks, vows, deeds = self.walks, self.vows, list(self.deeds)
        try:
            result = action(self)
        finally:
            self.walks, self.vows, self.deeds = walks, vows, deeds
        return result

    def change_walks(self, walks):
        """Puts these walks in the place of those of the book, if they keep its promises."""
        words = sorted([name for name in self.vows if not keeps(walks, self.vows[name])])
        if len(words) > 0:
            raise Barred(words)
        self.change(walks, self.vows)

    def change(self, walks, vows):
        """Does a deed."""
        self.deeds.append((self.walks, self.vows))
        self.walks = walks
        self.vows = vows


def check_walk(walks, name):
    """Refuses what is no name of a walk."""
    if not is_walk_name(name) or name not in walks:
        raise NoWalk(name)


def keeps(walks, promise):
    """Whether walks keep a promise; one about a walk that is not there is not kept."""
    try:
        return promise.is_kept(walks)
    except NoWalk:
        return False
