"""Taking a track out of a machine: for some number on it."""

from digitwise.digits import with_track
from digitwise.machine import Machine, check_track
from digitwise.search import reached


def ranks(machine, track):
    """Return the list of the ranks of the states of a machine."""
    check_track(machine, track)
    found = [0 if mark else None for mark in machine.accepting]
    rank = 0
    while rank in found:
        for state, row in enumerate(machine.table):
            behind = [found[row[with_track(0, track, value)]] for value in (0, 1)]
            if found[state] is None and rank in behind:
                found[state] = rank + 1
        rank += 1
    return found


def some(machine, track):
    """Return the machine without a track."""
    return some_with_sets(machine, track)[0]


def some_with_sets(machine, track):
    """Return the machine without a track and the list of the sets that its states are."""
    found = ranks(machine, track)

    def follow(states, letter):
        both = [with_track(letter, track, value) for value in (0, 1)]
        return tuple(sorted({machine.table[state][each] for state in states for each in both}))

    sets, table = reached((0,), machine.width - 1, follow)
    accepting = [any([found[member] is not None for member in members]) for members in sets]
    return Machine(machine.width - 1, table, accepting), sets
