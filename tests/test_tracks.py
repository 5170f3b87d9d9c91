"""Tests of points 13.1, 13.2 and 13.3."""

import itertools
import unittest

from digitwise.digits import digit, letter_of, word_of
from digitwise.errors import Misused, Oversized
from digitwise.machine import Machine, all_or_none
from digitwise.tracks import fix, spread, spread_with_states
from tests.machines import (
    counter, doubles, equal_numbers, is_numbered, leads, odd_digits, random_machines, tuples, walk,
)


class TrackTests(unittest.TestCase):
    def refused(self, error, field, function, *arguments):
        with self.assertRaises(error) as caught:
            function(*arguments)
        self.assertEqual((type(caught.exception), *vars(caught.exception).values()), (error, field))


class Spreading(TrackTests):
    def both_refuse(self, why, *arguments):
        self.refused(Misused, why, spread, *arguments)
        self.refused(Misused, why, spread_with_states, *arguments)

    def test_the_example(self):
        machine = spread(odd_digits(), (1,), 2)
        for x, y in tuples(2, 9):
            self.assertIs(machine.takes((x, y)), bin(y).count("1") % 2 == 1)
        self.assertEqual(machine.shape(), (2, ((0, 0, 1, 1), (1, 1, 0, 0)), (False, True)))

    def test_the_kinds_of_values(self):
        found = spread_with_states(odd_digits(), [0], 1)
        self.assertEqual([type(each) for each in [found, *found]], [tuple, Machine, list])
        self.assertEqual(found[1], [0, 1])
        self.assertIs(type(spread(odd_digits(), [0], 1)), Machine)

    def test_its_own_tracks(self):
        for machine in [odd_digits(), doubles(), equal_numbers()]:
            self.assertEqual(spread(machine, range(machine.width), machine.width).shape(), machine.shape())

    def test_lists_and_tuples(self):
        self.assertEqual(spread(doubles(), [2, 0], 3).shape(), spread(doubles(), (2, 0), 3).shape())

    def test_other_places(self):
        machine = spread(doubles(), (1, 0), 2)
        for x, y in tuples(2, 9):
            self.assertIs(machine.takes((x, y)), y == 2 * x)
        machine = spread(doubles(), (2, 0), 4)
        for numbers in tuples(4):
            self.assertIs(machine.takes(numbers), numbers[2] == 2 * numbers[0])

    def test_equal_places(self):
        machine = spread(doubles(), (0, 0), 1)
        self.assertEqual([number for number in range(20) if machine.takes((number,))], [0])
        machine = spread(equal_numbers(), (1, 1), 2)
        self.assertTrue(all([machine.takes(numbers) for numbers in tuples(2)]))

    def test_width_0(self):
        for value in (True, False):
            for width in range(7):
                machine = spread(all_or_none(0, value), (), width)
                self.assertEqual(machine.shape(), all_or_none(width, value).shape())

    def test_a_narrower_width(self):
        machine = spread(equal_numbers(), [0, 0], 1)
        self.assertEqual(machine.shape(), all_or_none(1, True).shape())

    def test_the_order_of_the_states(self):
        machine = Machine(1, [[0, 2], [0, 1], [3, 1], [3, 0]], [True, True, False, False])
        found, states = spread_with_states(machine, (0,), 1)
        self.assertEqual(states, [0, 2, 3, 1])
        self.assertEqual(found.shape(), (1, ((0, 1), (2, 3), (2, 0), (0, 3)), (True, False, False, True)))

    def test_only_states_that_can_be_reached(self):
        machine = Machine(2, [[0, 1, 2, 0], [1] * 4, [2, 2, 2, 0]], [True, False, False])
        self.assertEqual(spread_with_states(machine, (0, 0), 1)[1], [0])
        self.assertEqual(spread_with_states(machine, (1, 0), 2)[1], [0, 2, 1])
        self.assertEqual(spread_with_states(machine, (0, 1), 2)[1], [0, 1, 2])

    def test_random_machines(self):
        for old in random_machines(11, range(4)):
            for width in range(5):
                for places in itertools.islice(itertools.product(range(width), repeat=old.width), 0, None, 3):
                    machine, states = spread_with_states(old, places, width)
                    self.assertEqual((machine.width, states[0], len(set(states))), (width, 0, machine.size))
                    self.assertEqual(machine.accepting, [old.accepting[state] for state in states])
                    self.assertTrue(is_numbered(machine))

                    def follow(state, letter):
                        return old.table[state][letter_of([digit(letter, place) for place in places])]

                    self.assertTrue(leads(machine, states, follow))

    def test_what_it_takes(self):
        for old in random_machines(12, [1, 2, 3], 5):
            for places in itertools.product(range(3), repeat=old.width):
                machine = spread(old, places, 3)
                for numbers in tuples(3, 4):
                    self.assertIs(machine.takes(numbers), old.takes([numbers[place] for place in places]))

    def test_widths(self):
        for width in [-1, 7, 8, 100]:
            self.both_refuse("width", odd_digits(), (0,), width)
        self.assertEqual(spread(odd_digits(), (5,), 6).width, 6)
        self.assertEqual(len(spread(odd_digits(), (5,), 6).table[0]), 64)

    def test_places_that_are_not_one_for_each_track(self):
        for machine, places in [
            (odd_digits(), ()), (odd_digits(), (0, 1)), (doubles(), (0,)), (doubles(), [0, 1, 2]),
            (all_or_none(0, True), [0]),
        ]:
            self.both_refuse("places", machine, places, 3)

    def test_places_that_are_no_tracks(self):
        for place in [-1, 3, 4, 100]:
            self.both_refuse("places", odd_digits(), (place,), 3)
            self.both_refuse("places", doubles(), (0, place), 3)
            self.both_refuse("places", doubles(), [place, 0], 3)
        self.both_refuse("places", odd_digits(), (0,), 0)
        self.both_refuse("places", odd_digits(), (6,), 6)

    def test_the_order_of_the_conditions(self):
        self.both_refuse("width", odd_digits(), (), 7)
        self.both_refuse("width", odd_digits(), (9, 9), -1)

    def test_the_largest_machines(self):
        self.assertEqual(spread(counter(400), (1,), 2).size, 400)

    def test_the_arguments_stay_as_they_were(self):
        machine, places = doubles(), [2, 0]
        found, states = spread_with_states(machine, places, 3)
        found.table[0][0] = 1
        found.accepting[0] = False
        states.clear()
        self.assertEqual((machine.shape(), places), (doubles().shape(), [2, 0]))


class Fixing(TrackTests):
    def test_ordinary_numbers(self):
        for number in range(20):
            machine = fix(doubles(), 0, number)
            wanted = [number // 2] if number % 2 == 0 else []
            self.assertEqual([y for y in range(30) if machine.takes((y,))], wanted)
            machine = fix(doubles(), 1, number)
            self.assertEqual([x for x in range(60) if machine.takes((x,))], [2 * number])

    def test_all_tracks_taken_out(self):
        for number in range(20):
            machine = fix(odd_digits(), 0, number)
            self.assertIs(type(machine), Machine)
            self.assertEqual(machine.width, 0)
            self.assertIs(machine.takes(()), bin(number).count("1") % 2 == 1)

    def test_the_states_are_pairs(self):
        machine = fix(odd_digits(), 0, 6)
        # The pairs are (0, 6), (0, 3), (1, 1) and (0, 0).
        self.assertEqual(machine.shape(), (0, ((1,), (2,), (3,), (3,)), (False,) * 4))
        machine = fix(odd_digits(), 0, 2)
        # The pairs are (0, 2), (0, 1) and (1, 0).
        self.assertEqual(machine.shape(), (0, ((1,), (2,), (2,)), (True,) * 3))

    def test_the_number_0(self):
        self.assertEqual(fix(equal_numbers(), 0, 0).shape(), (1, ((0, 1), (1, 1)), (True, False)))
        self.assertEqual(fix(odd_digits(), 0, 0).shape(), (0, ((0,),), (False,)))

    def test_the_order_of_the_states(self):
        machine = fix(equal_numbers(), 1, 2)
        # The pairs are (0, 2), (0, 1), (1, 1), (1, 0) and (0, 0).
        self.assertEqual(machine.table, [[1, 2], [3, 4], [3, 3], [3, 3], [4, 3]])
        self.assertEqual(machine.accepting, [False, False, False, False, True])

    def test_random_machines(self):
        for old in random_machines(13, [1, 2, 3]):
            for track in range(old.width):
                for number in (0, 1, 2, 5, 12):
                    self.same_as_pairs(old, track, number)

    def same_as_pairs(self, old, track, number):
        """Compare a fixed machine with the pairs of point 13.2, which are found here in another way."""
        machine = fix(old, track, number)
        labels = {0: (0, number)}
        for place, row in enumerate(machine.table):
            state, rest = labels[place]
            for letter, behind in enumerate(row):
                digits = [digit(letter, each) for each in range(old.width - 1)]
                read = letter_of([*digits[:track], rest % 2, *digits[track:]])
                self.assertEqual(labels.setdefault(behind, (old.table[state][read], rest // 2))[1], rest // 2)
                self.assertEqual(labels[behind], (old.table[state][read], rest // 2))
        self.assertEqual(len(set(labels.values())), machine.size)
        self.assertTrue(is_numbered(machine))
        for place, (state, rest) in labels.items():
            started = Machine(old.width, *turned(old, state))
            self.assertIs(machine.accepting[place], started.accepts([letter << track for letter in word_of((rest,))]))

    def test_what_it_takes(self):
        for old in random_machines(14, [1, 2, 3], 6):
            for track in range(old.width):
                for number in range(9):
                    machine = fix(old, track, number)
                    for numbers in tuples(old.width - 1):
                        whole = (*numbers[:track], number, *numbers[track:])
                        self.assertIs(machine.takes(numbers), old.takes(whole))

    def test_tracks_that_there_are_not(self):
        for machine in [all_or_none(0, True), odd_digits(), doubles()]:
            for track in [-1, machine.width, machine.width + 1, 6, 100]:
                self.refused(Misused, "track", fix, machine, track, 0)

    def test_the_size_of_the_number(self):
        largest = 2 ** 64 - 1
        self.assertEqual(fix(odd_digits(), 0, largest).size, 65)
        self.assertIs(fix(odd_digits(), 0, largest).takes(()), False)
        self.assertIs(fix(odd_digits(), 0, 2 ** 63).takes(()), True)
        self.assertIs(fix(doubles(), 1, 2 ** 63).takes((2 ** 64,)), True)
        for number in [2 ** 64, 2 ** 64 + 1, 2 ** 70, 10 ** 100]:
            self.refused(Oversized, "number", fix, odd_digits(), 0, number)

    def test_the_number_of_states(self):
        self.assertEqual(fix(walk(0, 200, 2), 0, 2 ** 63).size, 64 + 200)
        self.assertEqual(fix(walk(0, 336, 2), 0, 2 ** 63).size, 400)
        self.refused(Oversized, "states", fix, walk(0, 337, 2), 0, 2 ** 63)
        self.assertEqual(fix(walk(0, 400, 2), 1, 0).size, 400)
        self.refused(Oversized, "states", fix, walk(0, 400, 2), 1, 1)

    def test_the_order_of_the_conditions(self):
        self.refused(Misused, "track", fix, odd_digits(), 1, 2 ** 64)
        self.refused(Misused, "track", fix, counter(400), -1, 1)
        self.refused(Oversized, "states", fix, walk(0, 400), 0, 1)
        self.refused(Oversized, "number", fix, walk(0, 400), 0, 2 ** 64)

    def test_the_machine_stays_as_it_was(self):
        machine = doubles()
        fixed = fix(machine, 0, 6)
        fixed.table[0][0] = 0
        fixed.accepting[0] = True
        self.assertEqual(machine.shape(), doubles().shape())


def turned(machine, start):
    """Return the table and the marks of a machine in which a state has changed places with the state 0."""
    order = list(range(machine.size))
    order[0], order[start] = start, 0
    table = [[order[state] for state in machine.table[order[place]]] for place in range(machine.size)]
    return table, [machine.accepting[order[place]] for place in range(machine.size)]


if __name__ == "__main__":
    unittest.main()
