"""Tests of points 21.1 and 21.2."""

import copy
import itertools
import unittest

from digitwise.errors import Misused, Oversized
from digitwise.machine import Machine
from digitwise.told import Told, powers


def parity():
    """Return the word of the example."""
    return Told([0, 1], [[0, 1], [1, 0]])


def thirds():
    """Return the word of the remainders by 3."""
    # A state is a remainder and how many times the next digit counts: once or twice.
    states = [(rest, times) for rest in range(3) for times in (1, 2)]
    table = [[states.index(((rest + digit * times) % 3, 3 - times)) for digit in (0, 1)] for rest, times in states]
    return Told([rest for rest, _ in states], table)


def ones(size):
    """Return a table of so many states that all lead to the first one."""
    return [[0, 0] for _ in range(size)]


class ToldTests(unittest.TestCase):
    def refused(self, error, field, *arguments):
        with self.assertRaises(error) as caught:
            Told(*arguments)
        self.assertIs(type(caught.exception), error)
        self.assertEqual(list(vars(caught.exception).values()), [field])

    def misused(self, why, *arguments):
        self.refused(Misused, why, *arguments)


class Making(ToldTests):
    def test_the_attributes(self):
        told = parity()
        self.assertEqual((told.outputs, told.table), ([0, 1], [[0, 1], [1, 0]]))
        self.assertEqual([type(told.outputs), type(told.table), type(told.table[0])], [list, list, list])

    def test_what_is_handed_in_is_copied(self):
        outputs, table = [0, 1], [[0, 1], [1, 0]]
        told = Told(outputs, table)
        outputs[0] = 7
        outputs.append(3)
        table[0][1] = 0
        table.append([0, 0])
        self.assertEqual((told.outputs, told.table), ([0, 1], [[0, 1], [1, 0]]))
        self.assertEqual(told.output(7), 1)

    def test_what_is_handed_in_stays_as_it_was(self):
        outputs, table = [0, 1], [[0, 1], [1, 0]]
        told = Told(outputs, table)
        told.outputs[0] = 5
        told.table[0][0] = 1
        self.assertEqual((outputs, table), ([0, 1], [[0, 1], [1, 0]]))

    def test_all_outputs(self):
        for output in range(10):
            self.assertEqual(Told([output], [[0, 0]]).outputs, [output])

    def test_wrong_outputs(self):
        for output in [-1, 10, 255, True, False, None, "1", 1.0, [1], (1,)]:
            self.misused("outputs", [output], [[0, 0]])
            self.misused("outputs", [0, output], [[0, 0], [0, 0]])
            self.misused("outputs", [output, 0], [[0, 0], [0, 0]])

    def test_no_output(self):
        self.misused("outputs", [], [])
        self.misused("outputs", [], [[0, 0]])

    def test_another_number_of_rows(self):
        for table in [[], ones(1), ones(3)]:
            self.misused("table", [0, 0], table)

    def test_rows_of_another_length(self):
        for row in [[], [0], [0, 0, 0]]:
            self.misused("table", [0], [row])
            self.misused("table", [0, 0], [[0, 0], row])
            self.misused("table", [0, 0], [row, [0, 0]])

    def test_successors_that_are_no_states(self):
        for successor in [-1, 2, 3, 40, True, None, "0"]:
            for place in range(4):
                table = ones(2)
                table[place // 2][place % 2] = successor
                self.misused("table", [0, 0], table)

    def test_the_number_of_states(self):
        self.assertEqual(len(Told([0] * 40, ones(40)).outputs), 40)
        self.refused(Oversized, "states", [0] * 41, ones(41))
        self.refused(Oversized, "states", [0] * 100, ones(100))

    def test_words_that_are_not_settled(self):
        self.misused("settled", [0, 1], [[1, 1], [1, 1]])
        self.misused("settled", [1, 0], [[0, 1], [0, 0]])
        self.misused("settled", [1, 2, 1], [[0, 1], [2, 0], [2, 2]])
        self.assertEqual(Told([1, 2, 1], [[2, 1], [1, 0], [0, 2]]).outputs, [1, 2, 1])

    def test_the_order_of_the_conditions(self):
        self.misused("outputs", [10] * 41, ones(40))
        self.misused("outputs", [0, 10], [[1, 5]])
        self.misused("outputs", [], [[0]])
        self.misused("table", [0] * 41, ones(40))
        self.misused("table", [0] * 41, [*ones(40), [0, 41]])
        self.misused("table", [0, 1], [[1, 1], [1, 2]])
        self.misused("table", [0, 1], [[1, 1], [1]])
        self.refused(Oversized, "states", [0] * 40 + [1], ones(41))


class Outputs(ToldTests):
    def test_the_example(self):
        self.assertEqual(parity().output(7), 1)

    def test_the_parity_of_the_number_of_digits_1(self):
        for number in range(200):
            self.assertEqual(parity().output(number), bin(number).count("1") % 2)

    def test_the_output_at_0_is_that_of_the_state_0(self):
        self.assertEqual(Told([7, 3], [[0, 1], [1, 1]]).output(0), 7)
        self.assertEqual(Told([7, 3], [[0, 1], [1, 1]]).output(1), 3)

    def test_the_least_significant_digit_is_read_first(self):
        first = Told([4, 4, 9], [[1, 2], [1, 1], [2, 2]])
        self.assertEqual([first.output(number) for number in range(8)], [4, 9, 4, 9, 4, 9, 4, 9])

    def test_remainders(self):
        for number in [*range(100), 3 ** 80, 3 ** 80 + 1, 3 ** 80 + 2]:
            self.assertEqual(thirds().output(number), number % 3)


class Machines(ToldTests):
    def test_the_states_and_the_table_are_the_same(self):
        for told in [parity(), thirds()]:
            for output in range(10):
                machine = told.machine(output)
                self.assertIsInstance(machine, Machine)
                self.assertEqual((machine.width, machine.table), (1, told.table))
                self.assertEqual(machine.accepting, [each == output for each in told.outputs])

    def test_states_that_cannot_be_reached_stay(self):
        told = Told([0, 0, 5], [[0, 0], [0, 2], [2, 1]])
        self.assertEqual(told.machine(5).shape(), (1, ((0, 0), (0, 2), (2, 1)), (False, False, True)))

    def test_the_machine_takes_the_numbers_with_the_output(self):
        for told in [parity(), thirds()]:
            for output, number in itertools.product(range(4), range(50)):
                self.assertIs(told.machine(output).takes((number,)), told.output(number) == output)

    def test_an_output_that_there_is_not(self):
        self.assertEqual(parity().machine(7).accepting, [False, False])

    def test_the_word_stays_as_it_was(self):
        told = thirds()
        before = copy.deepcopy((told.outputs, told.table))
        machine = told.machine(1)
        machine.table[0][0] = 5
        machine.accepting[0] = True
        told.output(1000)
        self.assertEqual((told.outputs, told.table), before)


class Powers(ToldTests):
    def test_the_machine(self):
        self.assertEqual(powers().shape(), (1, ((0, 1), (1, 2), (2, 2)), (False, True, False)))

    def test_it_takes_the_powers_of_two(self):
        self.assertEqual([number for number in range(300) if powers().takes((number,))], [2 ** k for k in range(9)])
        self.assertIs(powers().takes((2 ** 100,)), True)
        self.assertIs(powers().takes((2 ** 100 + 2 ** 3,)), False)

    def test_each_call_makes_a_machine_of_its_own(self):
        powers().table[0][0] = 2
        self.assertEqual(powers().table, [[0, 1], [1, 2], [2, 2]])


if __name__ == "__main__":
    unittest.main()
