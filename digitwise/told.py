"""Words told by small machines, and the machine of the powers of two."""

from digitwise.errors import Misused, Oversized
from digitwise.formulas import is_output
from digitwise.machine import Machine, is_table

TOLD_STATES = 40


class Told:
    """A word: an output at each number."""

    def __init__(self, outputs, table):
        if len(outputs) == 0 or not all([is_output(output) for output in outputs]):
            raise Misused("outputs")
        if len(table) != len(outputs) or not is_table(table, 2):
            raise Misused("table")
        if len(outputs) > TOLD_STATES:
            raise Oversized("states")
        for state, row in enumerate(table):
            if outputs[state] != outputs[row[0]]:
                raise Misused("settled")
        self.outputs = list(outputs)
        self.table = [list(row) for row in table]

    def output(self, number):
        """Return the output at a number."""
        state = 0
        while number > 0:
            state = self.table[state][number % 2]
            number //= 2
        return self.outputs[state]

    def machine(self, output):
        """Return the machine of the numbers that have this output."""
        return Machine(1, self.table, [each == output for each in self.outputs])


def powers():
    """Return the least machine of the powers of two."""
    return Machine(1, [[0, 1], [1, 2], [2, 2]], [False, True, False])
