"""Tests of points 14.1, 14.2 and 14.3."""

import unittest

from digitwise.digits import with_track
from digitwise.errors import Misused, Oversized
from digitwise.machine import Machine, all_or_none
from digitwise.project import ranks, some, some_with_sets
from tests.machines import (
    counter, doubles, equal_numbers, is_numbered, leads, odd_digits, random_machines, tuples, walk,
)


def at_least_digits(count):
    """Return a machine that takes (x, y) if the last digit 1 of y has a place of at least this count."""
    size = count + 2
    table = []
    for state in range(size):
        behind = min(state + 1, count)
        table.append([behind, behind, size - 1 if state == count else behind, size - 1 if state == count else behind])
    table[-1] = [size - 1] * 4
    return Machine(2, table, [state == size - 1 for state in range(size)])


def many_sets(count):
    """Return a machine with 2 ** count sets for the track 1.

    It guesses on the track 1 which digit 1 of the track 0 is to be the one behind which the digits are counted; it
    stays in the state 0 until then, and any of the `count` states of counting may be in a set beside it.
    """
    table = [[0, 0, 0, 1], *[[min(state + 1, count)] * 4 for state in range(1, count + 1)]]
    return Machine(2, table, [False] * (count + 1))


class ProjectTests(unittest.TestCase):
    def refused(self, error, field, function, *arguments):
        with self.assertRaises(error) as caught:
            function(*arguments)
        self.assertEqual((type(caught.exception), *vars(caught.exception).values()), (error, field))


class Ranks(ProjectTests):
    def test_accepting_states_have_the_rank_0(self):
        for machine in random_machines(21, [1, 2, 3]):
            for track in range(machine.width):
                found = ranks(machine, track)
                self.assertIs(type(found), list)
                self.assertEqual([rank == 0 for rank in found], machine.accepting)

    def test_ranks_of_small_machines(self):
        self.assertEqual(ranks(odd_digits(), 0), [1, 0])
        self.assertEqual(ranks(equal_numbers(), 0), [0, None])
        self.assertEqual(ranks(doubles(), 0), [0, None, 1])
        self.assertEqual(ranks(doubles(), 1), [0, None, None])
        self.assertEqual(ranks(all_or_none(3, True), 1), [0])
        self.assertEqual(ranks(all_or_none(3, False), 1), [None])

    def test_ranks_of_longer_ways(self):
        self.assertEqual(ranks(at_least_digits(4), 1), [5, 4, 3, 2, 1, 0])
        self.assertEqual(ranks(at_least_digits(4), 0), [None] * 5 + [0])
        self.assertEqual(ranks(counter(6), 0), [0, 5, 4, 3, 2, 1])
        self.assertEqual(max(ranks(counter(400), 0)), 399)

    def test_a_letter_0_may_lead_there_too(self):
        machine = Machine(1, [[1, 0], [1, 2], [2, 2]], [False, False, True])
        self.assertEqual(ranks(machine, 0), [2, 1, 0])

    def test_states_that_cannot_be_reached_have_ranks(self):
        machine = Machine(1, [[0, 0], [1, 2], [2, 2]], [False, False, True])
        self.assertEqual(ranks(machine, 0), [None, 1, 0])

    def test_random_machines(self):
        for machine in random_machines(22, [1, 2, 3, 4]):
            for track in range(machine.width):
                wanted = []
                for state in range(machine.size):
                    now, rank = {state}, 0
                    while rank <= machine.size and not any([machine.accepting[each] for each in now]):
                        now = {machine.table[each][letter] for each in now for letter in (0, 1 << track)}
                        rank += 1
                    wanted.append(rank if rank <= machine.size else None)
                self.assertEqual(ranks(machine, track), wanted)

    def test_tracks_that_there_are_not(self):
        for machine in [all_or_none(0, True), odd_digits(), doubles()]:
            for track in [-1, machine.width, machine.width + 1, 6]:
                self.refused(Misused, "track", ranks, machine, track)

    def test_the_machine_stays_as_it_was(self):
        machine = doubles()
        ranks(machine, 0).clear()
        self.assertEqual(machine.shape(), doubles().shape())


class Projection(ProjectTests):
    def both_refuse(self, error, field, *arguments):
        self.refused(error, field, some, *arguments)
        self.refused(error, field, some_with_sets, *arguments)

    def test_the_even_numbers(self):
        # The machine of x = 2 * y, made by hand.
        machine = some(doubles(), 1)
        for number in range(100):
            self.assertIs(machine.takes((number,)), number % 2 == 0)
        self.assertEqual(machine.width, 1)

    def test_the_kinds_of_values(self):
        found = some_with_sets(doubles(), 1)
        self.assertEqual([type(each) for each in [found, *found, found[1][0]]], [tuple, Machine, list, tuple])
        self.assertIs(type(some(doubles(), 1)), Machine)
        self.assertEqual(some(doubles(), 1).shape(), found[0].shape())

    def test_the_sets(self):
        machine, sets = some_with_sets(doubles(), 1)
        self.assertEqual(sets, [(0,), (0, 2), (1,), (0, 1, 2)])
        self.assertEqual(machine.shape(), (1, ((1, 2), (3, 3), (2, 2), (3, 3)), (True, True, False, True)))

    def test_the_number_may_have_more_digits_than_the_others(self):
        machine = some(at_least_digits(5), 1)
        self.assertTrue(all([machine.takes((number,)) for number in range(70)]))
        self.assertIs(machine.accepting[0], True)
        machine = some(doubles(), 0)
        self.assertTrue(all([machine.takes((number,)) for number in range(70)]))

    def test_width_1(self):
        machine, sets = some_with_sets(odd_digits(), 0)
        self.assertEqual(machine.shape(), (0, ((1,), (1,)), (True, True)))
        self.assertEqual(sets, [(0,), (0, 1)])
        machine, sets = some_with_sets(all_or_none(1, False), 0)
        self.assertEqual((machine.shape(), sets), (all_or_none(0, False).shape(), [(0,)]))

    def test_the_order_of_the_states(self):
        old = Machine(
            2, [[0, 3, 1, 2], [0, 0, 2, 2], [3, 1, 3, 1], [3, 2, 3, 0]], [True, True, False, False],
        )
        self.assertEqual(some_with_sets(old, 0)[1][:3], [(0,), (0, 3), (1, 2)])
        self.assertEqual(some_with_sets(old, 1)[1][:3], [(0,), (0, 1), (2, 3)])

    def test_random_machines(self):
        for old in random_machines(23, [1, 2, 3, 4]):
            for track in range(old.width):
                machine, sets = some_with_sets(old, track)
                self.assertEqual((machine.width, sets[0]), (old.width - 1, (0,)))
                self.assertEqual((len(set(sets)), len(sets)), (machine.size, machine.size))
                self.assertEqual([list(each) for each in sets], [sorted(set(each)) for each in sets])
                self.assertTrue(is_numbered(machine))

                def follow(states, letter):
                    both = [with_track(letter, track, value) for value in (0, 1)]
                    return tuple(sorted({old.table[state][each] for state in states for each in both}))

                self.assertTrue(leads(machine, sets, follow))
                found = ranks(old, track)
                marks = [any([found[state] is not None for state in states]) for states in sets]
                self.assertEqual(machine.accepting, marks)

    def test_what_it_takes(self):
        for old in random_machines(24, [1, 2, 3], 8):
            for track in range(old.width):
                machine = some(old, track)
                for numbers in tuples(old.width - 1, 4):
                    # The sets of states behind so many digits repeat before the digits of this limit are read.
                    wanted = any([
                        old.takes((*numbers[:track], number, *numbers[track:])) for number in range(2 ** (3 + old.size))
                    ])
                    self.assertIs(machine.takes(numbers), wanted)

    def test_all_tracks_one_after_the_other(self):
        for first in (0, 1):
            self.assertIs(some(some(equal_numbers(), first), 0).takes(()), True)
            self.assertIs(some(some(all_or_none(2, False), first), 0).takes(()), False)

    def test_tracks_that_there_are_not(self):
        for machine in [all_or_none(0, True), odd_digits(), doubles(), many_sets(12)]:
            for track in [-1, machine.width, machine.width + 1, 6]:
                self.both_refuse(Misused, "track", machine, track)

    def test_the_number_of_states(self):
        self.assertEqual(some(many_sets(8), 1).size, 2 ** 8)
        self.both_refuse(Oversized, "states", many_sets(9), 1)
        self.both_refuse(Oversized, "states", many_sets(300), 1)

    def test_the_bound_of_the_states(self):
        for size in (399, 400):
            # Each set has one member, as neither track matters.
            self.assertEqual(some(walk(0, size, 2), 1).size, size)
            # The sets with one member, and behind them one with two.
            table = [*[[state + 1] * 2 for state in range(size - 1)], [size - 2, size - 1]]
            machine = Machine(1, table, [False] * size)
            if size == 399:
                self.assertEqual(some_with_sets(machine, 0)[1], [*[(state,) for state in range(399)], (397, 398)])
            else:
                self.both_refuse(Oversized, "states", machine, 0)

    def test_the_machine_stays_as_it_was(self):
        machine = doubles()
        found, sets = some_with_sets(machine, 1)
        found.table[0][0] = 0
        found.accepting[0] = False
        sets.clear()
        self.assertEqual(machine.shape(), doubles().shape())


if __name__ == "__main__":
    unittest.main()
