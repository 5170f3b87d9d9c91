"""Finding the states of a machine that is made from another one."""

from digitwise.digits import letters
from digitwise.errors import Oversized
from digitwise.machine import STATES


def reached(start, width, follow):
    """Return the list of the labels that can be reached from a start, and the table of their numbers.

    `follow(label, letter)` returns the label behind a label. They are numbered in the order in which they are
    found: breadth first, the letters of a label in ascending order.
    """
    found = [start]
    numbers = {start: 0}
    table = []
    while len(table) < len(found):
        label = found[len(table)]
        row = []
        for letter in range(letters(width)):
            behind = follow(label, letter)
            if behind not in numbers:
                # Refused here and not only by Machine, because there may be far too many to find them all.
                if len(found) == STATES:
                    raise Oversized("states")
                numbers[behind] = len(found)
                found.append(behind)
            row.append(numbers[behind])
        table.append(row)
    return found, table


def marks_behind(machine, marks):
    """Return for each state of a machine if a letter leads from a marked state to it."""
    found = [False] * machine.size
    for state, mark in enumerate(marks):
        if mark:
            for behind in machine.table[state]:
                found[behind] = True
    return found
