"""Least machines, and what parts two machines."""

from digitwise.errors import Misused
from digitwise.machine import Machine
from digitwise.search import reached


def classes(machine):
    """Return the list of one integer for each state, the same for two states if and only if they are alike."""
    return rounds(machine.table, machine.accepting)[-1]


def least(machine):
    """Return the least machine of a machine."""
    return least_with_map(machine)[0]


def least_with_map(machine):
    """Return the least machine and, for each state of the machine, its state that is alike, or None."""
    found = classes(machine)
    # Alike states have alike successors, so any one state of a class tells where the class leads.
    members = {each: state for state, each in enumerate(found)}

    def follow(each, letter):
        return found[machine.table[members[each]][letter]]

    order, table = reached(found[0], machine.width, follow)
    numbers = {each: number for number, each in enumerate(order)}
    smallest = Machine(machine.width, table, [machine.accepting[members[each]] for each in order])
    return smallest, [numbers.get(each) for each in found]


def same(one, two):
    """Return True if two machines have one width and take the same tuples."""
    return least(one).shape() == least(two).shape()


def apart(one, two):
    """Return the first of the shortest words that exactly one of two machines accepts, or None."""
    if one.width != two.width:
        raise Misused("width")
    # The two machines side by side, the states of the second one behind those of the first.
    table = [*one.table, *[[one.size + state for state in row] for row in two.table]]
    found = rounds(table, [*one.accepting, *two.accepting])
    first, second = 0, one.size
    word = []
    if found[-1][first] == found[-1][second]:
        return None
    length = min([count for count, each in enumerate(found) if each[first] != each[second]])
    # A word of this length parts the states, and no shorter one does: so one of a letter less parts what is behind.
    for shorter in reversed(found[:length]):
        letter = min([
            each for each, behind in enumerate(table[first]) if shorter[behind] != shorter[table[second][each]]
        ])
        word.append(letter)
        first, second = table[first][letter], table[second][letter]
    return word


def rounds(table, marks):
    """Return for 0, 1, .. letters the classes of the states that no word of at most so many letters parts.

    The last ones are those that no word at all parts.
    """
    found = [numbered([(mark,) for mark in marks])]
    while True:
        last = found[-1]
        # The classes are numbered as they occur, so they are equal lists if and only if no class has been parted.
        new = numbered([(last[state], *[last[behind] for behind in row]) for state, row in enumerate(table)])
        if new == last:
            return found
        found.append(new)


def numbered(signs):
    """Return the list of the numbers of tuples, 0, 1, .. in the order of their first occurrence."""
    numbers = {}
    return [numbers.setdefault(sign, len(numbers)) for sign in signs]
