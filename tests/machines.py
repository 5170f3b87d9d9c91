"""Machines for the tests, and what the tests ask of several kinds of machines."""

import itertools
import random

from digitwise.digits import letters
from digitwise.machine import Machine


def odd_digits():
    """Return the machine of example 11: it takes the numbers with an odd number of digits 1."""
    return Machine(1, [[0, 1], [1, 0]], [False, True])


def equal_numbers():
    """Return a machine that takes the pairs of equal numbers."""
    return Machine(2, [[0, 1, 1, 0], [1, 1, 1, 1]], [True, False])


def doubles():
    """Return a machine that takes (x, y) if x is 2 * y."""
    # State 0: y has had a digit 0 last, state 2: a digit 1; state 1: x is another number.
    return Machine(2, [[0, 1, 2, 1], [1, 1, 1, 1], [1, 0, 1, 2]], [True, False, False])


def walk(tail, cycle, width=1):
    """Return a machine with one way: so many states, and then so many others that lead round in a cycle."""
    size = tail + cycle
    table = [[state + 1 if state + 1 < size else tail] * letters(width) for state in range(size)]
    return Machine(width, table, [False] * size)


def counter(size):
    """Return a machine of width 1 that takes the numbers whose number of digits 1 is a multiple of the size."""
    return Machine(1, [[state, (state + 1) % size] for state in range(size)], [state == 0 for state in range(size)])


def random_machine(source, width, size):
    """Return a machine in which not all states need be reached from the start."""
    table = [[source.randrange(size) for _ in range(letters(width))] for _ in range(size)]
    accepting = [None] * size
    # A state has the mark of the state behind it by the letter 0, so each walk along these letters has one mark.
    for state in range(size):
        walk = [state]
        while accepting[walk[-1]] is None and table[walk[-1]][0] not in walk:
            walk.append(table[walk[-1]][0])
        mark = accepting[walk[-1]]
        if mark is None:
            mark = accepting[table[walk[-1]][0]]
        if mark is None:
            mark = source.random() < 0.5
        for each in walk:
            accepting[each] = mark
    return Machine(width, table, accepting)


def random_machines(seed, widths, count=12):
    """Return machines of each of these widths, the same ones for the same seed."""
    source = random.Random(seed)
    return [random_machine(source, width, source.randrange(1, 7)) for width in widths for _ in range(count)]


def tuples(width, limit=6):
    """Return all tuples of so many numbers below a limit, which is lower for many numbers."""
    return list(itertools.product(range(limit if width < 4 else 3), repeat=width))


def is_numbered(machine):
    """Tell whether all states are reached from the start and numbered breadth first, the letters ascending."""
    found = [0]
    for place in range(machine.size):
        if place == len(found):
            return False
        for state in machine.table[found[place]]:
            if state not in found:
                found.append(state)
    return found == list(range(machine.size))


def leads(machine, labels, follow):
    """Tell whether each letter leads from a state to the one whose label is `follow(label, letter)`."""
    return all([
        labels[state] == follow(labels[place], letter)
        for place, row in enumerate(machine.table) for letter, state in enumerate(row)
    ])
