"""Desks: a cross to which more and more is told."""

from toldcounts.crosses import need_cross
from toldcounts.crossranges import sure_cells, told_range
from toldcounts.errors import InvalidStretch, NoData, NothingToUndo
from toldcounts.fillings import a_filling
from toldcounts.stretches import is_stretch, lies_in
from toldcounts.trials import Trial


class Desk:
    """A cross as it is by what was told; it always has a filling."""

    def __init__(self, cross):
        need_cross(cross)
        _need_filling_of(cross)
        # Pairs (telling, the cross behind it), one for each telling; a trial puts older ones in their place.
        self._states = ((None, cross),)

    @property
    def now(self):
        """The cross as it is."""
        return self._states[-1][1]

    @property
    def tale(self):
        """The pairs (what, stretch) that were told and not taken back."""
        return tuple([telling for telling, _ in self._states[1:]])

    def tell(self, what, stretch):
        """Tells this stretch anew."""
        told = self.now.stretch(what)
        if not is_stretch(stretch) or not (lies_in(stretch[0], told) and lies_in(stretch[1], told)):
            raise InvalidStretch(stretch)
        cross = self.now.changed(what, stretch)
        _need_filling_of(cross)
        self._states = (*self._states, ((what, stretch), cross))

    def undo(self):
        """Takes back the last telling."""
        if len(self._states) == 1:
            raise NothingToUndo()
        self._states = self._states[:-1]

    def sure(self):
        """The cells that have one number in all fillings."""
        return sure_cells(self.now)

    def ends(self, what):
        """The range of what this stretch is told of."""
        return told_range(self.now, what)

    def trial(self):
        """For a with statement: if it ends with an exception, the desk is as it was."""
        return Trial(self)

    def tried(self, action):
        """What the function returns, called with the desk within a trial."""
        with Trial(self) as desk:
            return action(desk)

    def __len__(self):
        return len(self._states[1:])

    def __bool__(self):
        return True


def _need_filling_of(cross):
    """Raises NoData for a cross without a filling."""
    if a_filling(cross) is None:
        raise NoData()
