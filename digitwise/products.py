"""Products and complements of machines."""

from digitwise.errors import Misused
from digitwise.formulas import JOINTS
from digitwise.machine import Machine
from digitwise.search import reached


def both(one, two, name):
    """Return the product of two machines."""
    return both_with_pairs(one, two, name)[0]


def both_with_pairs(one, two, name):
    """Return the product of two machines and the list of the pairs of its states."""
    if one.width != two.width:
        raise Misused("width")
    if name not in JOINTS:
        raise Misused("name")

    def follow(pair, letter):
        return (one.table[pair[0]][letter], two.table[pair[1]][letter])

    pairs, table = reached((0, 0), one.width, follow)
    accepting = [joined(name, one.accepting[first], two.accepting[second]) for first, second in pairs]
    return Machine(one.width, table, accepting), pairs


def joined(name, first, second):
    """Return the mark of a pair of states with these marks."""
    if name == "and":
        return first and second
    if name == "or":
        return first or second
    if name == "imp":
        return not first or second
    return first == second


def complement(machine):
    """Return the complement of a machine."""
    return Machine(machine.width, machine.table, [not mark for mark in machine.accepting])
