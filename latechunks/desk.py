"""A desk that takes lines and answers."""

from latechunks.chunks import Chunks
from latechunks.crews import Crew
from latechunks.errors import BadLine, BadSetting, BadText, NoChunk, Nothing, TooMany
from latechunks.history import History, Trial
from latechunks.lines import DeskState, answered, changed, is_change, parsed
from latechunks.rules import Fixed
from latechunks.settings import Setting


class Desk:
    """A setting, a list of chunks and a rule, which lines change and ask about."""

    def __init__(self):
        self._history = History(DeskState(Setting(Crew(a=1)), Chunks(), Fixed(1)))

    @classmethod
    def read(cls, text):
        """The Desk that has done the lines of a text, all of them changes."""
        if not isinstance(text, str):
            raise BadText(0, 0)
        desk = cls()
        for row, line in enumerate(text.split("\n")):
            try:
                desk.answer_to(line)
            except BadLine as error:
                raise BadText(row, error.word)
            if len(desk) != row + 1:
                raise BadText(row, 0)
        return desk

    def __call__(self, line):
        return self.answer_to(line)

    def answer_to(self, line):
        """Does one line and returns its answer."""
        word, told = words_of(line)
        # Where all words can stand, no other errors are left that what a line asks can raise.
        try:
            return self.do(line, word, told)
        except BadSetting:
            return "refused BadSetting"
        except NoChunk:
            return "refused NoChunk"
        except TooMany:
            return "refused TooMany"

    def do(self, line, word, told):
        """Does a line of which the words tell this, and returns its answer."""
        state = self._history.state
        if is_change(word):
            self._history.change(line, changed(state, word, told))
            return "ok"
        return self.take_back() if word == "back" else answered(state, word, told)

    def take_back(self):
        """Takes back the last change that is not taken back."""
        try:
            self._history.back()
        except Nothing:
            return "nothing"
        return "ok"

    def run(self, *lines):
        """Does lines in order, and returns the tuple of the answers; if one is no line, nothing is changed."""
        kept = list(self._history.past)
        state = self._history.state
        try:
            return tuple([self.answer_to(line) for line in lines])
        except BadLine:
            self._history.past = kept
            self._history.state = state
            raise

    def changes(self):
        """The tuple of the lines that can be taken back, in order."""
        return tuple([line for line, _ in self._history.past])

    def trial(self):
        """A block behind which the desk is as it was when the block began."""
        return Trial(self, self._history)

    def tried(self, work):
        """What a function tells of the desk, behind which the desk is as it was."""
        with self.trial() as same:
            return work(same)

    def __len__(self):
        return len(self._history.past)

    def __bool__(self):
        return bool(self._history.past)


def words_of(line):
    """The pair of the first word of a line and what the others tell."""
    try:
        return parsed(line)
    except BadText as error:
        raise BadLine(error.word)
