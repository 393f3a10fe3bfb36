"""The way back, for objects that keep all their states: a list, with the present one at its end."""

from rolluplevels.errors import NothingDone


def take_back(states):
    """Remove the last state, unless it is the only one."""
    if len(states) == 1:
        raise NothingDone("there is nothing that could be taken back")
    states.pop()


class Moment:
    """The states that there were when a block began, and the moment of the block around it, if any."""

    def __init__(self, states, around):
        self.seen = states
        self.around = around


class Trying:
    """A block: if an exception leaves it, the object has the states that it had when the block began."""

    def __init__(self, kept):
        self.kept = kept
        self.moment = None

    def __enter__(self):
        # The list is copied, as the object goes on with its own; moments are linked, as a block may be
        # begun again within itself.
        self.moment = Moment(list(self.kept.states), self.moment)
        return self.kept

    def __exit__(self, kind, value, trace):
        if kind is not None:
            self.kept.states = self.moment.seen
        self.moment = self.moment.around
        return False
