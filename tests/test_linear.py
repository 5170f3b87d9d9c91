"""Tests of points 20.1, 20.2 and 20.3."""

import itertools
import unittest

from digitwise.digits import digit
from digitwise.errors import Misused, Oversized
from digitwise.linear import at_most, equation
from digitwise.machine import Machine
from tests.machines import is_numbered, leads, tuples
from tests.refusals import RefusalTests

COEFFICIENTS = [
    [], [0], [1], [-1], [2], [-3], [7], [1, 1], [1, -1], [2, -1], [-3, 2], [5, 7], [0, 4], [-2, -2],
    [1, -1, -1], [2, 3, -4], [0, 0, 0], [1, -1, 2, -2], [3, -1, 2, 0, -5, 1],
]
CONSTANTS = [0, 1, -1, 2, -2, 3, 8, -8, 13, -255]


def summed(coefficients, numbers):
    return sum([coefficient * number for coefficient, number in zip(coefficients, numbers)])


class Both(RefusalTests):

    def test_the_kinds_of_values(self):
        for function in (equation, at_most):
            found = function([1, -2], 0)
            self.assertEqual([type(each) for each in [found, *found]], [tuple, Machine, list])
            self.assertTrue(all([type(label) in (int, type(None)) for label in found[1]]))
            self.assertEqual({type(mark) for mark in found[0].accepting}, {bool})

    def test_the_width_and_the_order_of_the_states(self):
        for function, coefficients, constant in itertools.product((equation, at_most), COEFFICIENTS, CONSTANTS):
            machine, labels = function(coefficients, constant)
            self.assertEqual((machine.width, machine.size), (len(coefficients), len(labels)))
            self.assertEqual(len(set(labels)), len(labels))
            self.assertTrue(is_numbered(machine))

    def test_six_tracks_and_one_more(self):
        for function in (equation, at_most):
            self.assertEqual(function([1, -1, 0, 0, 0, 0], 0)[0].width, 6)
            self.refused(Misused, "width", function, [1, -1, 0, 0, 0, 0, 0], 0)
            # Refused before the letters are gone through, of which there are far too many.
            self.refused(Misused, "width", function, [255] * 60, 7)

    def test_numbers_beyond_those_of_a_term(self):
        machine, labels = equation([1], -10 ** 30)
        self.assertEqual((machine.takes((10 ** 30,)), machine.takes((10 ** 30 + 1,))), (True, False))
        self.assertEqual(labels[0], 10 ** 30)
        self.assertEqual([at_most([300], -600)[0].takes((number,)) for number in (2, 3)], [True, False])

    def test_the_coefficients_stay_as_they_were(self):
        coefficients = [2, -3]
        machine, labels = at_most(coefficients, 5)
        labels.clear()
        machine.table[0][0] = 3
        self.assertEqual(coefficients, [2, -3])
        self.assertEqual(at_most(coefficients, 5)[1][0], -5)
        self.assertEqual(equation((1, -2), 0)[1], equation([1, -2], 0)[1])


class Equations(RefusalTests):
    def test_the_example(self):
        machine, labels = equation([1], -2)
        self.assertEqual(labels, [2, 1, None, 0])
        self.assertEqual(machine.shape(), (1, ((1, 2), (2, 3), (2, 2), (3, 2)), (False, False, False, True)))

    def test_without_names(self):
        for constant, labels, table, marks in [
            (0, [0], ((0,),), (True,)),
            (5, [-5, None], ((1,), (1,)), (False, False)),
            (-4, [4, 2, 1, None], ((1,), (2,), (3,), (3,)), (False,) * 4),
        ]:
            machine, found = equation([], constant)
            self.assertEqual((found, machine.shape()), (labels, (0, table, marks)))

    def test_the_labels(self):
        for coefficients, constant in itertools.product(COEFFICIENTS, CONSTANTS):
            machine, labels = equation(coefficients, constant)
            self.assertEqual(labels[0], -constant)
            self.assertEqual(machine.accepting, [label == 0 and label is not None for label in labels])

            def follow(label, letter):
                weight = summed(coefficients, [digit(letter, track) for track in range(len(coefficients))])
                if label is None or (label - weight) % 2 == 1:
                    return None
                return (label - weight) // 2

            self.assertTrue(leads(machine, labels, follow))

    def test_what_it_takes(self):
        for coefficients, constant in itertools.product(COEFFICIENTS, CONSTANTS):
            machine = equation(coefficients, constant)[0]
            for numbers in tuples(len(coefficients), 9):
                self.assertIs(machine.takes(numbers), summed(coefficients, numbers) + constant == 0)

    def test_the_number_of_states(self):
        self.assertEqual(equation([201, -199], 0)[0].size, 400)
        self.assertEqual(equation([1], -2 ** 397)[0].size, 400)
        for arguments in [
            ([201, -200], 0), ([202, -199], 0), ([255, -254, 253, -252, 251, -250], 255), ([1], -2 ** 398),
            ([10 ** 50, -10 ** 49 - 1], 0),
        ]:
            self.refused(Oversized, "states", equation, *arguments)


class Inequalities(RefusalTests):
    def test_without_names(self):
        for constant, labels, table, marks in [
            (0, [0], ((0,),), (True,)),
            (3, [-3, -2, -1], ((1,), (2,), (2,)), (False,) * 3),
            (-4, [4, 2, 1, 0], ((1,), (2,), (3,), (3,)), (True,) * 4),
        ]:
            machine, found = at_most([], constant)
            self.assertEqual((found, machine.shape()), (labels, (0, table, marks)))

    def test_a_small_one(self):
        # x - 2 <= 0
        machine, labels = at_most([1], -2)
        self.assertEqual(labels, [2, 1, 0, -1])
        self.assertEqual(machine.shape(), (1, ((1, 2), (2, 2), (2, 3), (3, 3)), (True, True, True, False)))
        # 5 - x <= 0
        machine, labels = at_most([-1], 5)
        self.assertEqual(labels, [-5, -3, -2, -1, 0])
        self.assertEqual(machine.shape(), (1, ((1, 2), (2, 3), (3, 3), (3, 4), (4, 4)), (*[False] * 4, True)))

    def test_the_labels(self):
        for coefficients, constant in itertools.product(COEFFICIENTS, CONSTANTS):
            machine, labels = at_most(coefficients, constant)
            self.assertEqual(labels[0], -constant)
            self.assertEqual(machine.accepting, [label >= 0 for label in labels])

            def follow(label, letter):
                weight = summed(coefficients, [digit(letter, track) for track in range(len(coefficients))])
                # Rounded down, also below 0.
                return (label - weight - (label - weight) % 2) // 2

            self.assertTrue(leads(machine, labels, follow))

    def test_what_it_takes(self):
        for coefficients, constant in itertools.product(COEFFICIENTS, CONSTANTS):
            machine = at_most(coefficients, constant)[0]
            for numbers in tuples(len(coefficients), 9):
                self.assertIs(machine.takes(numbers), summed(coefficients, numbers) + constant <= 0)

    def test_the_number_of_states(self):
        self.assertEqual(at_most([200, 199], 0)[0].size, 400)
        self.assertEqual(at_most([399], 0)[0].size, 400)
        for arguments in [
            ([201, 199], 0), ([200, 200], 0), ([400], 0), ([255] * 6, 0), ([-1], 5 ** 200), ([10 ** 50], 0),
        ]:
            self.refused(Oversized, "states", at_most, *arguments)


if __name__ == "__main__":
    unittest.main()
