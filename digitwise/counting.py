"""Counting and listing what a machine accepts."""

from digitwise.search import marks_behind
from digitwise.witness import next_number


def count_below(machine, digits):
    """Return the number of accepted tuples all of whose numbers have at most so many digits."""
    # For each state, the number of the words of so many letters that are accepted from it on.
    ways = [1 if mark else 0 for mark in machine.accepting]
    for _ in range(digits):
        ways = [sum([ways[behind] for behind in row]) for row in machine.table]
    return ways[0]


def is_finite(machine):
    """Return True if a machine accepts finitely many tuples."""
    size = machine.size
    # The states behind which the word of a tuple may end with one letter more, which is not 0.
    ends = [True in [machine.accepting[behind] for behind in row[1:]] for row in machine.table]
    marks = [state == 0 for state in range(size)]
    for length in range(1, 2 * size):
        if length >= size and True in [mark and end for mark, end in zip(marks, ends)]:
            return False
        marks = marks_behind(machine, marks)
    return True


def count_all(machine):
    """Return the number of accepted tuples, or None if it is infinite."""
    # An accepted tuple that is as long as there are states would be one of infinitely many.
    return count_below(machine, machine.size) if is_finite(machine) else None


def first_numbers(machine, limit):
    """Return the ascending list of the first numbers, at most so many, that a machine of width 1 accepts."""
    found = []
    start = 0
    while len(found) < limit:
        number = next_number(machine, start)
        if number is None:
            return found
        found.append(number)
        start = number + 1
    return found
