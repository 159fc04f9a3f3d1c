"""What can be taken back and done again, in blocks, and the deeds that were accepted."""

from stoppoints.errors import LimitExceeded, NothingToRedo, NothingToUndo

MOST_BLOCKS = 20


class Block:
    """The changes within one block, or outside of all, and the deeds there; a block that has ended is a deed itself."""

    def __init__(self, outer):
        self.outer = outer
        self.level = 0 if outer is None else outer.level + 1
        # The states ahead of the changes that can be taken back, and those behind the changes that can be done again.
        self.ahead = []
        self.behind = []
        self.deeds = []


class History:
    """A state, which never changes itself, and how it came about. A deed is a tuple, the first of which is its word."""

    def __init__(self, state):
        self.state = state
        self.block = Block(None)

    def change(self, state, deed):
        """Goes on with another state."""
        self.block.ahead.append(self.state)
        self.block.behind.clear()
        self._go_on(state, deed)

    def undo(self):
        """Takes back the last change of the block."""
        if not self.block.ahead:
            raise NothingToUndo()
        self.block.behind.append(self.state)
        self._go_on(self.block.ahead.pop(), ("undo",))

    def redo(self):
        """Does again the last change of the block that was taken back."""
        if not self.block.behind:
            raise NothingToRedo()
        self.block.ahead.append(self.state)
        self._go_on(self.block.behind.pop(), ("redo",))

    def _go_on(self, state, deed):
        self.block.deeds.append(deed)
        self.state = state

    def accepted(self):
        """All deeds in order, with ("begin",) and ("end",) around those of blocks."""
        found = flat(self.block.deeds)
        outer = self.block.outer
        while outer is not None:
            found = flat(outer.deeds) + [("begin",)] + found
            outer = outer.outer
        return found


def flat(deeds):
    """The deeds, with those of the blocks among them."""
    found = []
    for deed in deeds:
        if isinstance(deed, Block):
            found.append(("begin",))
            found.extend(flat(deed.deeds))
            found.append(("end",))
        else:
            found.append(deed)
    return found


class Trial:
    """The context manager of one block of a history; `as` gives what is handed in.

    A block has lists of its own, so those around it are as they were if it is left by an error.
    """

    def __init__(self, history, given):
        self._history = history
        self._given = given

    def __enter__(self):
        history = self._history
        outer = history.block
        if outer.level == MOST_BLOCKS:
            raise LimitExceeded(MOST_BLOCKS)
        self._outer = outer
        self._ahead = outer.ahead
        self._behind = outer.behind
        self._deeds = outer.deeds
        self._begin = history.state
        self._inner = Block(outer)
        history.block = self._inner
        return self._given

    def __exit__(self, kind, value, trace):
        history = self._history
        history.block = self._outer
        if kind is None:
            self._ahead.append(self._begin)
            self._behind.clear()
            self._deeds.append(self._inner)
        else:
            history.state = self._begin
