"""Least numbers and least tuples that a machine accepts."""

from digitwise.compiler import compile_formula
from digitwise.linear import at_most
from digitwise.products import both
from digitwise.project import some
from digitwise.search import marks_behind
from digitwise.tracks import fix


def least_number(machine):
    """Return the least number that a machine of width 1 accepts, or None."""
    layers = shortest_layers(machine)
    if layers is None:
        return None
    number = 0
    wanted = machine.accepting
    for marks in reversed(layers[:-1]):
        digit = 0
        before = led_to(machine, marks, wanted, digit)
        if True not in before:
            digit = 1
            before = led_to(machine, marks, wanted, digit)
        wanted = before
        number = 2 * number + digit
    return number


def shortest_layers(machine):
    """Return for 0, 1, .. letters the marks of the states behind so many, up to an accepting one; None without one."""
    layers = [[state == 0 for state in range(machine.size)]]
    # The shortest accepted word passes no state twice, so it has fewer letters than there are states.
    while len(layers) <= machine.size:
        if True in [mark and machine.accepting[state] for state, mark in enumerate(layers[-1])]:
            return layers
        layers.append(marks_behind(machine, layers[-1]))
    return None


def led_to(machine, marks, wanted, digit):
    """Return the marks of those marked states that a digit leads to a wanted state."""
    return [mark and wanted[row[digit]] for mark, row in zip(marks, machine.table)]


def next_number(machine, start):
    """Return the least number from a start on that a machine of width 1 accepts, or None."""
    return least_number(both(machine, at_most([-1], start)[0], "and"))


def least_tuple(machine):
    """Return the least tuple that a machine accepts, or None."""
    numbers = []
    while machine.width > 0:
        left = machine
        while left.width > 1:
            left = some(left, 1)
        number = least_number(left)
        if number is None:
            return None
        numbers.append(number)
        machine = fix(machine, 0, number)
    return tuple(numbers) if machine.accepting[0] else None


def witness(book, formula):
    """Return a dict from the free names of a formula to the numbers of its least tuple, or None."""
    names, machine = compile_formula(book, formula)
    numbers = least_tuple(machine)
    return None if numbers is None else dict(zip(names, numbers))
