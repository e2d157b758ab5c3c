"""Trials: what is done to a desk or a shelf in them is undone if they end with an exception."""


class Begun:
    """The states of the owner where a trial began, and the one around it that the same object began, or None."""

    def __init__(self, states, around):
        self.states = states
        self.around = around


class Trial:
    """For with statements; also for several, one within another."""

    def __init__(self, owner):
        self._owner = owner
        self._begun = None

    def __enter__(self):
        self._begun = Begun(self._owner._states, self._begun)
        return self._owner

    def __exit__(self, kind, value, trace):
        if kind is not None:
            self._owner._states = self._begun.states
        self._begun = self._begun.around
