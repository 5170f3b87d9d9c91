"""Putting tracks into a machine and taking them out."""

from digitwise.digits import digit, letter_of, letters, with_track
from digitwise.errors import Misused, Oversized
from digitwise.machine import Machine, check_track, check_width
from digitwise.search import reached

NUMBER_DIGITS = 64


def spread(machine, places, width):
    """Return the machine of this width that reads the tracks of a machine at these places."""
    return spread_with_states(machine, places, width)[0]


def spread_with_states(machine, places, width):
    """Return the spread machine and the list of the old states of its states."""
    check_width(width)
    if len(places) != machine.width or not all([0 <= place < width for place in places]):
        raise Misused("places")
    old_letters = [letter_of([digit(letter, place) for place in places]) for letter in range(letters(width))]

    def follow(state, wide):
        return machine.table[state][old_letters[wide]]

    states, table = reached(0, width, follow)
    return Machine(width, table, [machine.accepting[state] for state in states]), states


def fix(machine, track, number):
    """Return the machine without a track, on which the number is read."""
    check_track(machine, track)
    if number.bit_length() > NUMBER_DIGITS:
        raise Oversized("number")

    def follow(pair, letter):
        state, rest = pair
        return (machine.table[state][with_track(letter, track, rest % 2)], rest // 2)

    pairs, table = reached((0, number), machine.width - 1, follow)
    return Machine(machine.width - 1, table, [accepts_rest(machine, track, pair) for pair in pairs])


def accepts_rest(machine, track, pair):
    """Return True if a state of a pair accepts the digits of its number on a track and 0 on all others."""
    state, rest = pair
    while rest > 0:
        state = machine.table[state][with_track(0, track, rest % 2)]
        rest //= 2
    return machine.accepting[state]
