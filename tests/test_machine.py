"""Tests of points 11.1, 11.2 and 11.3."""

import copy
import itertools
import unittest

from digitwise.digits import letters, word_of
from digitwise.errors import Misused, Oversized
from digitwise.machine import STATES, TRACKS, Machine, all_or_none

ODD = ([[0, 1], [1, 0]], [False, True])


def odd_digits():
    """Return the machine of example 11."""
    return Machine(1, *copy.deepcopy(ODD))


def equal_numbers():
    """Return a machine of width 2 that takes the pairs of equal numbers."""
    return Machine(2, [[0, 1, 1, 0], [1, 1, 1, 1]], [True, False])


def line(size):
    """Return a table of width 0 in which each state but the last leads to the next one."""
    return [[min(state + 1, size - 1)] for state in range(size)]


class MachineTests(unittest.TestCase):
    def refused(self, error, field, *arguments):
        with self.assertRaises(error) as caught:
            Machine(*arguments)
        self.assertIs(type(caught.exception), error)
        self.assertEqual(list(vars(caught.exception).values()), [field])

    def misused(self, why, *arguments):
        self.refused(Misused, why, *arguments)


class Making(MachineTests):
    def test_the_limits(self):
        self.assertEqual((STATES, TRACKS), (400, 6))

    def test_the_attributes(self):
        machine = odd_digits()
        self.assertEqual(machine.width, 1)
        self.assertEqual(machine.table, [[0, 1], [1, 0]])
        self.assertEqual(machine.accepting, [False, True])
        self.assertEqual(machine.size, 2)

    def test_tuples_are_taken_likewise(self):
        for table in [((0, 1), (1, 0)), [(0, 1), (1, 0)], ([0, 1], [1, 0])]:
            for accepting in [(False, True), [False, True]]:
                machine = Machine(1, table, accepting)
                self.assertEqual(machine.table, [[0, 1], [1, 0]])
                self.assertEqual(machine.accepting, [False, True])
                self.assertIs(type(machine.table), list)
                self.assertEqual([type(row) for row in machine.table], [list, list])
                self.assertIs(type(machine.accepting), list)

    def test_the_size(self):
        for size in [1, 2, 17, 400]:
            self.assertEqual(Machine(0, line(size), [True] * size).size, size)
        with self.assertRaises(AttributeError):
            odd_digits().size = 3

    def test_what_is_handed_in_is_copied(self):
        table, accepting = copy.deepcopy(ODD)
        machine = Machine(1, table, accepting)
        table[0][1] = 0
        table.append([2, 2])
        accepting[1] = False
        accepting.append(True)
        self.assertEqual(machine.shape(), (1, ((0, 1), (1, 0)), (False, True)))
        self.assertIs(machine.takes((1,)), True)

    def test_what_is_handed_in_stays_as_it_was(self):
        table, accepting = copy.deepcopy(ODD)
        machine = Machine(1, table, accepting)
        machine.table[0][1] = 0
        machine.table.append([2, 2])
        machine.accepting[1] = False
        self.assertEqual((table, accepting), ODD)

    def test_widths(self):
        for width in range(7):
            machine = Machine(width, [[0] * letters(width)], [True])
            self.assertEqual((machine.width, machine.size), (width, 1))
        for width in [-1, 7, 8, -100, 100]:
            self.misused("width", width, [[0] * 128], [True])
            self.misused("width", width, [[0]], [True])

    def test_the_number_of_states(self):
        self.assertEqual(Machine(0, line(400), [False] * 400).size, 400)
        self.refused(Oversized, "states", 0, line(401), [False] * 401)
        self.refused(Oversized, "states", 0, line(1000), [False] * 1000)

    def test_tables_without_a_row(self):
        for width in range(7):
            self.misused("table", width, [], [])
            self.misused("table", width, [], [True])
            self.misused("table", width, (), ())

    def test_rows_of_another_length(self):
        for row in [[], [0], [0, 0, 0], [0, 0, 0, 0]]:
            self.misused("table", 1, [row], [True])
            self.misused("table", 1, [[0, 0], row], [True, True])
            self.misused("table", 1, [row, [0, 0]], [True, True])
        self.misused("table", 0, [[]], [True])
        self.misused("table", 0, [[0, 0]], [True])
        self.misused("table", 6, [[0] * 63], [True])
        self.misused("table", 6, [[0] * 65], [True])

    def test_successors_that_are_no_states(self):
        for successor in [-1, -2, 2, 3, 400, True, None, "0"]:
            for place in range(4):
                table = [[0, 0], [1, 1]]
                table[place // 2][place % 2] = successor
                self.misused("table", 1, table, [True, False])

    def test_another_number_of_marks(self):
        for accepting in [[], [True], [True] * 3]:
            self.misused("table", 1, [[0, 1], [1, 0]], accepting)

    def test_machines_that_are_not_settled(self):
        self.misused("settled", 1, [[1, 1], [1, 1]], [False, True])
        self.misused("settled", 1, [[1, 1], [1, 1]], [True, False])
        self.misused("settled", 1, [[0, 0], [0, 0]], [False, True])
        self.misused("settled", 0, line(3), [False, False, True])
        self.misused("settled", 2, [[0, 1, 1, 1], [0, 1, 1, 1]], [False, True])
        self.assertEqual(Machine(2, [[0, 1, 1, 1], [1, 0, 0, 0]], [False, True]).size, 2)

    def test_the_order_of_the_conditions(self):
        self.misused("width", 7, [[0]] * 401, [])
        self.misused("width", -1, [], [])
        self.misused("width", 9, [[1], [1]], [False, True])
        self.refused(Oversized, "states", 0, [[]] * 401, [])
        self.refused(Oversized, "states", 0, [[-1]] * 401, [True])
        self.refused(Oversized, "states", 0, [[400]] * 401, [True] * 400 + [False])
        self.misused("table", 1, [[1, 1], [1, 2]], [False, True])
        self.misused("table", 1, [[1, 1], [1, 1], [2, 2]], [False, True])
        self.misused("table", 1, [[1, 1], [1]], [False, True])


class Reading(MachineTests):
    def test_example_11(self):
        machine = odd_digits()
        for number in range(200):
            self.assertIs(machine.takes((number,)), bin(number).count("1") % 2 == 1)

    def test_behind(self):
        machine = Machine(1, [[0, 1], [2, 0], [1, 2]], [True, False, False])
        for word, state in [([], 0), ([0], 0), ([1], 1), ([1, 0], 2), ([1, 1], 0), ([1, 0, 1], 2), ([1, 0, 0], 1)]:
            self.assertEqual(machine.behind(word), state)

    def test_accepts(self):
        machine = odd_digits()
        for word, wanted in [([], False), ([0], False), ([1], True), ([1, 0], True), ([0, 1, 1], False)]:
            self.assertIs(machine.accepts(word), wanted)

    def test_the_letters_are_read_in_order(self):
        first_digit = Machine(1, [[1, 2], [1, 1], [2, 2]], [False, False, True])
        self.assertIs(first_digit.takes((5,)), True)
        self.assertIs(first_digit.takes((6,)), False)
        self.assertEqual(first_digit.behind([0, 1]), 1)
        self.assertEqual(first_digit.behind([1, 0]), 2)

    def test_takes_more_than_one_number(self):
        machine = equal_numbers()
        for numbers in itertools.product(range(10), repeat=2):
            self.assertIs(machine.takes(numbers), numbers[0] == numbers[1])
            self.assertIs(machine.takes(list(numbers)), numbers[0] == numbers[1])

    def test_the_track_0_is_for_the_first_number(self):
        no_digit_on_track_0 = Machine(2, [[0, 1, 0, 1], [1, 1, 1, 1]], [True, False])
        self.assertIs(no_digit_on_track_0.takes((0, 5)), True)
        self.assertIs(no_digit_on_track_0.takes((5, 0)), False)

    def test_a_settled_machine_accepts_any_word_that_stands_for_a_tuple_it_takes(self):
        for machine in [odd_digits(), equal_numbers()]:
            for numbers in itertools.product(range(6), repeat=machine.width):
                for zeros in range(4):
                    self.assertIs(machine.accepts([*word_of(numbers), *[0] * zeros]), machine.takes(numbers))

    def test_width_0(self):
        machine = Machine(0, [[1], [0]], [True, True])
        self.assertIs(machine.takes(()), True)
        self.assertIs(machine.takes([]), True)
        self.assertEqual(machine.behind([0, 0, 0]), 1)

    def test_large_numbers(self):
        self.assertIs(odd_digits().takes((2 ** 300,)), True)
        self.assertIs(odd_digits().takes((2 ** 300 + 1,)), False)

    def test_another_number_of_numbers(self):
        for machine, given in [
            (odd_digits(), ()), (odd_digits(), (1, 2)), (odd_digits(), []), (equal_numbers(), (1,)),
            (equal_numbers(), (1, 2, 3)), (all_or_none(0, True), (0,)), (all_or_none(6, True), (0,) * 5),
        ]:
            with self.assertRaises(Misused) as caught:
                machine.takes(given)
            self.assertEqual(caught.exception.why, "count")

    def test_the_arguments_stay_as_they_were(self):
        machine, word, numbers = equal_numbers(), [0, 3, 0], [2, 2]
        machine.behind(word)
        machine.accepts(word)
        machine.takes(numbers)
        self.assertEqual((word, numbers), ([0, 3, 0], [2, 2]))
        self.assertEqual(machine.shape(), equal_numbers().shape())


class Shape(MachineTests):
    def test_the_shape(self):
        self.assertEqual(odd_digits().shape(), (1, ((0, 1), (1, 0)), (False, True)))
        self.assertEqual(all_or_none(0, True).shape(), (0, ((0,),), (True,)))

    def test_all_of_it_are_tuples(self):
        shape = odd_digits().shape()
        self.assertEqual([type(part) for part in [shape, shape[1], shape[2], *shape[1]]], [tuple] * 5)

    def test_machines_with_one_shape(self):
        self.assertEqual(Machine(1, ((0, 1), (1, 0)), (False, True)).shape(), odd_digits().shape())

    def test_machines_with_other_shapes(self):
        shapes = [
            odd_digits().shape(), equal_numbers().shape(), Machine(1, [[0, 1], [1, 0]], [True, False]).shape(),
            Machine(1, [[0, 1], [1, 1]], [False, True]).shape(), all_or_none(0, True).shape(),
            all_or_none(1, True).shape(), all_or_none(0, False).shape(),
        ]
        self.assertEqual(len(set(shapes)), len(shapes))


class AllOrNone(MachineTests):
    def test_each_width(self):
        for width in range(7):
            for value in (True, False):
                machine = all_or_none(width, value)
                self.assertEqual(machine.shape(), (width, ((0,) * letters(width),), (value,)))
                self.assertIs(machine.takes((0,) * width), value)
                self.assertIs(machine.takes(tuple(range(width))), value)

    def test_the_value_is_given_back(self):
        self.assertIs(all_or_none(1, True).accepting[0], True)
        self.assertIs(all_or_none(1, False).accepting[0], False)


if __name__ == "__main__":
    unittest.main()
