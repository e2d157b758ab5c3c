"""Shelves: things under names, and wishes that hold whatever is done ([29])."""

from toldcounts.errors import Broken, InUse, InvalidIndex, InvalidLog, InvalidName, NothingToUndo, NotPossible
from toldcounts.errors import UnknownName, WrongName, WrongValue
from toldcounts.things import need_thing, read_thing
from toldcounts.trials import Trial
from toldcounts.values import is_name, is_number
from toldcounts.wishes import does_hold, need_wish, suits

# How long each change in a log is.
_LENGTHS = {"put": 3, "drop": 2, "wish": 3, "lift": 2}


class Shelf:
    """Things under names, and wishes for them; at first there are none."""

    def __init__(self):
        # Triples (change, things by their names, wishes); a trial puts older ones in their place.
        self._states = ((None, {}, ()),)

    @property
    def names(self):
        """The names of all things, ascending."""
        return tuple(sorted(list(self._states[-1][1])))

    @property
    def wishes(self):
        """The pairs (name, wish)."""
        return self._states[-1][2]

    @property
    def log(self):
        """The changes that were not taken back."""
        return tuple([state[0] for state in self._states[1:]])

    def put(self, name, thing):
        """Puts the thing under this name, also in the place of another one."""
        if not is_name(name):
            raise InvalidName(name)
        need_thing(thing)
        for at, (owner, wish) in enumerate(self.wishes):
            if owner == name and not _is_met(thing, wish):
                raise Broken(at)
        things = {**self._states[-1][1], name: thing}
        self._states = (*self._states, (("put", name, thing.text), things, self.wishes))

    def thing(self, name):
        """The thing under this name."""
        if name not in self:
            raise UnknownName(name)
        return self._states[-1][1][name]

    def drop(self, name):
        """Takes the thing under this name away."""
        if name not in self:
            raise UnknownName(name)
        for at, (owner, _) in enumerate(self.wishes):
            if owner == name:
                raise InUse(at)
        things = {other: thing for other, thing in self._states[-1][1].items() if other != name}
        self._states = (*self._states, (("drop", name), things, self.wishes))

    def wish(self, name, wish):
        """A wish more for the thing under this name."""
        thing = self.thing(name)
        need_wish(wish)
        if not _is_met(thing, wish):
            raise Broken(len(self.wishes))
        wishes = (*self.wishes, (name, wish))
        self._states = (*self._states, (("wish", name, wish), self._states[-1][1], wishes))

    def lift(self, index):
        """Takes the wish with this index away."""
        if not is_number(index) or index >= len(self.wishes):
            raise InvalidIndex(index)
        wishes = (*self.wishes[:index], *self.wishes[index + 1:])
        self._states = (*self._states, (("lift", index), self._states[-1][1], wishes))

    def undo(self):
        """Takes back the last change."""
        if len(self._states) == 1:
            raise NothingToUndo()
        self._states = self._states[:-1]

    def trial(self):
        """For a with statement: if it ends with an exception, the shelf is as it was."""
        return Trial(self)

    def tried(self, action):
        """What the function returns, called with the shelf within a trial."""
        with Trial(self) as shelf:
            return action(shelf)

    def __contains__(self, value):
        return isinstance(value, str) and value in self._states[-1][1]

    def __len__(self):
        return len(self._states[-1][1])

    def __bool__(self):
        return True


def _is_met(thing, wish):
    """Whether the wish suits the thing, and holds for it."""
    return suits(thing, wish) and does_hold(thing, wish)


def _is_change(value):
    """Whether it can be a change in a log, whatever stands behind its word."""
    if not isinstance(value, tuple) or len(value) == 0 or not isinstance(value[0], str):
        return False
    return _LENGTHS.get(value[0]) == len(value)


def _make(shelf, change):
    """Makes a change of a log."""
    word, *told = change
    if word == "put":
        shelf.put(told[0], read_thing(told[1]))
    elif word == "drop":
        shelf.drop(told[0])
    elif word == "wish":
        shelf.wish(told[0], told[1])
    else:
        shelf.lift(told[0])


def played(log):
    """A fresh shelf with these changes made."""
    if not isinstance(log, tuple):
        raise InvalidLog(None)
    shelf = Shelf()
    for at, change in enumerate(log):
        if not _is_change(change):
            raise InvalidLog(at)
        try:
            _make(shelf, change)
        except (WrongValue, WrongName, NotPossible):
            raise InvalidLog(at) from None
    return shelf
