"""A bench: a rule that is run by hand, call by call."""

from blindslots.board import Board
from blindslots.errors import NoName, NoUndo
from blindslots.kinds import is_name
from blindslots.rules import check_rule


class Bench:
    """A rule whose jobs arrive and finish as the caller says."""

    def __init__(self, rule, *, processors=1):
        check_rule(rule)
        self._board = Board(rule, processors)
        # The boards before each call that can be taken back, the latest one last.
        self._past = []

    def arrive(self, name, *, entry=0):
        """Let a job arrive at the current moment."""
        if not is_name(name) or name in self._board.ran:
            raise NoName(name)
        self._past.append(self._board.copied())
        self._board.enter(name, entry)

    def end_unit(self, finishing=()):
        """Run one unit, at whose end these jobs finish; return the running jobs."""
        running = self._board.running()
        for place, name in enumerate(finishing):
            if name not in running or name in finishing[:place]:
                raise NoName(name)
        self._past.append(self._board.copied())
        self._board.end_units(1, finishing)
        return running

    def undo(self):
        """Take back the last call of `arrive` or `end_unit` that has not been taken back."""
        if not self._past:
            raise NoUndo()
        self._board = self._past.pop()

    def moment(self):
        """Return the number of units that have run."""
        return self._board.now

    def running(self):
        """Return the names of the jobs that would run in the next unit, in order."""
        return self._board.running()

    def state(self):
        """Return the levels, each with its triples (name, used, ran), front first."""
        board = self._board
        return tuple([
            tuple([(name, board.used[name], board.ran[name]) for name in line]) for line in board.lines
        ])

    def lengths(self):
        """Return a dictionary from the finished jobs to their lengths, in the order of the finishes."""
        return self._board.lengths()

    def log(self):
        """Return the log so far."""
        return self._board.log()
