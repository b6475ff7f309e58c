"""What something that changes is like, and was like ahead of each deed: so deeds can be taken back."""

from latechunks.errors import Nothing


class History:
    """A state, which never changes itself, and the pairs of each deed that can be taken back and the state ahead."""

    def __init__(self, state):
        self.state = state
        self.past = []

    def change(self, deed, state):
        """A deed is done, behind which the state is this one."""
        self.past.append((deed, self.state))
        self.state = state

    def back(self):
        """Takes back the last deed that is not taken back, and returns it."""
        if not self.past:
            raise Nothing()
        deed, self.state = self.past.pop()
        return deed


class Kept:
    """What a history was like when a block began, and what is kept for the block around it."""

    def __init__(self, history, outer):
        self.state = history.state
        self.past = list(history.past)
        self.outer = outer


class Trial:
    """A block behind which the history of what is held is as it was when the block began."""

    def __init__(self, held, history):
        self._held = held
        self._history = history
        self._kept = None

    def __enter__(self):
        self._kept = Kept(self._history, self._kept)
        return self._held

    def __exit__(self, kind, value, trace):
        self._history.state = self._kept.state
        self._history.past = self._kept.past
        self._kept = self._kept.outer
