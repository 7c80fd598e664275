"""Desks: nets, tables, runs and plays by lines of words."""

from layerpost.desk_acts import Board, board_behind, is_action
from layerpost.desk_asks import answer_of
from layerpost.desk_lines import read_line
from layerpost.errors import Nothing
from layerpost.trials import Attempt, Trial

# Lines that want a play; all others but these two want a net.
OF_PLAYS = ("send", "go", "handed", "delays", "way", "clock")
OF_NOTHING = ("net", "undo")


class Desk:
    """What lines have told, and all that can be taken back. A desk changes."""

    def __init__(self):
        self.now = Board(None, None, None, None)
        self.past = []

    def check_wanted(self, word):
        """Raises if a line wants a net, or a play, and there is none."""
        if word in OF_PLAYS and self.now.play is None:
            raise Nothing()
        if word not in OF_NOTHING and self.now.net is None:
            raise Nothing()

    def say(self, line):
        """Does what a line tells, and returns the answer."""
        word, values = read_line(line)
        self.check_wanted(word)
        if word == "undo":
            return self.take_back()
        if not is_action(word):
            return answer_of(self.now, word, values)
        board = board_behind(self.now, word, values)
        self.past.append(self.now)
        self.now = board
        return str(board.play.clock) if word == "go" else "ok"

    def take_back(self):
        """Takes back the last line that can be taken back."""
        if not self.past:
            return "nothing"
        self.now = self.past.pop()
        return "ok"

    def __call__(self, line):
        return self.say(line)

    def say_all(self, *lines):
        """The list of the answers; if a line raises an error nothing is done."""
        with Attempt(self) as same:
            return [same.say(line) for line in lines]

    @property
    def net_now(self):
        """The Net, None without one."""
        return self.now.net

    @property
    def laid_tables(self):
        """The Tables, None without a net."""
        return self.now.tables

    @property
    def run_now(self):
        """The Run, None without a net."""
        return self.now.run

    def play_now(self):
        """A twin of the play, None without one."""
        return None if self.now.play is None else self.now.play.twin()

    def __len__(self):
        return len(self.past)

    def trial(self):
        """A block behind which the desk is as it was."""
        return Trial(self)

    def tried(self, work):
        """What the work tells, which leaves nothing."""
        with self.trial() as same:
            return work(same)
