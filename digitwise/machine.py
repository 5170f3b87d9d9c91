"""Machines that read the digits of tuples of numbers."""

from digitwise.digits import letters, word_of
from digitwise.errors import Misused, Oversized

STATES = 400
TRACKS = 6


class Machine:
    """A settled machine with finitely many states."""

    def __init__(self, width, table, accepting):
        check_width(width)
        if len(table) > STATES:
            raise Oversized("states")
        if len(table) == 0 or len(accepting) != len(table) or not is_table(table, letters(width)):
            raise Misused("table")
        for state, row in enumerate(table):
            if accepting[state] != accepting[row[0]]:
                raise Misused("settled")
        self.width = width
        self.table = [list(row) for row in table]
        self.accepting = list(accepting)

    @property
    def size(self):
        """The number of states."""
        return len(self.table)

    def behind(self, word):
        """Return the state behind a word."""
        state = 0
        for letter in word:
            state = self.table[state][letter]
        return state

    def accepts(self, word):
        """Return True if the machine accepts a word."""
        return self.accepting[self.behind(word)]

    def takes(self, numbers):
        """Return True if the machine takes a tuple or list of numbers."""
        if len(numbers) != self.width:
            raise Misused("count")
        return self.accepts(word_of(numbers))

    def shape(self):
        """Return the triple of the width, the rows and the marks, all as tuples."""
        return (self.width, tuple([tuple(row) for row in self.table]), tuple(self.accepting))


def is_table(table, length):
    """Return True if each row has this length and all its successors are states."""
    for row in table:
        if len(row) != length or not all([is_state(successor, len(table)) for successor in row]):
            return False
    return True


def is_state(value, size):
    """Return True if a value of any kind is one of the states 0, 1, .. of a machine of this size."""
    return isinstance(value, int) and not isinstance(value, bool) and 0 <= value < size


def check_width(width):
    """Raise an error if no machine may have this width."""
    if not 0 <= width <= TRACKS:
        raise Misused("width")


def check_track(machine, track):
    """Raise an error if a machine has no such track."""
    if not 0 <= track < machine.width:
        raise Misused("track")


def all_or_none(width, value):
    """Return the machine with one state that takes all tuples, or none."""
    return Machine(width, [[0] * letters(width)], [value])
