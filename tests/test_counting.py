"""Tests of points 42.1 and 42.2."""

import itertools
import unittest

from digitwise.compiler import compile_formula
from digitwise.counting import count_all, count_below, first_numbers, is_finite
from digitwise.digits import word_of
from digitwise.errors import Oversized
from digitwise.linear import at_most, equation
from digitwise.machine import Machine, all_or_none
from digitwise.parser import parse_formula
from digitwise.products import both, complement
from digitwise.told import powers
from digitwise.witness import next_number
from tests.machines import counter, doubles, equal_numbers, odd_digits, random_machines, walk
from tests.meaning import sample_book, samples
from tests.refusals import RefusalTests


def machine_of(text):
    return compile_formula(sample_book(), parse_formula(text))[1]


def lengths(machine, limit):
    """Return the list of the lengths of the accepted tuples below 2 to the power of a limit."""
    return [
        len(word_of(numbers)) for numbers in itertools.product(range(2 ** limit), repeat=machine.width)
        if machine.takes(numbers)
    ]


MACHINES = [
    odd_digits(), doubles(), equal_numbers(), powers(), complement(powers()), counter(5), walk(4, 3),
    equation([1], -5)[0],
    at_most([1], -5)[0], at_most([-1], 5)[0],
    *[all_or_none(width, value) for width in (0, 1, 2) for value in (True, False)],
    *random_machines(71, [0, 1], 25), *random_machines(72, [2], 15),
]


class CountsBelow(unittest.TestCase):
    def test_the_example(self):
        self.assertEqual(count_below(machine_of("x < 5"), 2), 4)

    def test_by_trying_numbers(self):
        for machine in MACHINES:
            for digits in range(7 if machine.width < 2 else 5):
                found = count_below(machine, digits)
                self.assertEqual(found, len(lengths(machine, digits)))
                self.assertIs(type(found), int)

    def test_no_digits(self):
        # Only the tuple of numbers 0 is below 1.
        machines = [powers(), doubles(), all_or_none(3, True)]
        self.assertEqual([count_below(machine, 0) for machine in machines], [0, 1, 1])
        self.assertEqual([count_below(all_or_none(0, value), 0) for value in (True, False)], [1, 0])

    def test_many_digits(self):
        self.assertEqual(count_below(all_or_none(6, True), 200), 2 ** 1200)
        self.assertEqual(count_below(all_or_none(1, False), 200), 0)
        self.assertEqual(count_below(powers(), 200), 200)
        self.assertEqual(count_below(odd_digits(), 200), 2 ** 199)
        self.assertEqual(count_below(machine_of("x < y"), 200), (4 ** 200 - 2 ** 200) // 2)
        self.assertEqual(count_below(machine_of("x = 3 * y"), 199), (2 ** 199 + 2) // 3)
        self.assertEqual(count_below(all_or_none(0, True), 200), 1)

    def test_states_that_cannot_be_reached(self):
        self.assertEqual(count_below(Machine(1, [[0, 0], [1, 1]], [False, True]), 9), 0)


class Counts(unittest.TestCase):
    def test_the_example(self):
        self.assertEqual(count_all(machine_of("x < 5")), 5)

    def test_by_trying_numbers(self):
        seen = []
        for machine in [machine for machine in MACHINES if machine.size * machine.width <= 7]:
            found = lengths(machine, 2 * machine.size - 1)
            finite = not [length for length in found if length >= machine.size]
            self.assertIs(is_finite(machine), finite)
            self.assertEqual(count_all(machine), len(found) if finite else None)
            seen.append(finite)
        self.assertGreater(seen.count(True), 8)
        self.assertGreater(seen.count(False), 8)

    def test_small_ones(self):
        for text, count in [
            ("x = 3", 1), ("x < x", 0), ("x < 100", 100), ("x >= 100", None), ("x + y <= 10", 66),
            ("x + y >= 10", None),
            ("x < 4 & y = y", 4), ("x < 4 & y >= 0", None), ("x < 4 & y < x", 6), ("pow(x) & x < 200", 8),
            ("pow(x)", None), ("x = 2 * y", None),
            ("x = 2 * y & y < 9", 9), ("some y: x = 3 * y & x < 20", 7), ("1 = 1", 1), ("1 = 2", 0),
            ("a + b + c + d = 3", 20), ("a + b + c + d + e + f <= 2", 28), ("T[x] = 1 & x < 64", 32),
        ]:
            self.assertEqual(count_all(machine_of(text)), count)
            self.assertIs(is_finite(machine_of(text)), count is not None)

    def test_a_machine_that_is_not_least(self):
        for machine in [machine_of("x < 100"), machine_of("pow(x)"), machine_of("x < 9")]:
            product = both(both(machine, counter(7), "and"), counter(3), "or")
            self.assertIs(is_finite(product), False)
            product = both(machine, walk(17, 2), "or")
            self.assertEqual(count_all(product), count_all(machine))

    def test_long_tuples(self):
        # All of them are as long as there are states but one, or two.
        self.assertEqual(count_all(equation([1], -2 ** 397)[0]), 1)
        self.assertEqual(count_all(at_most([1], -5 ** 60)[0]), 5 ** 60 + 1)
        self.assertIsNone(count_all(at_most([-1], 5 ** 60)[0]))
        self.assertIs(is_finite(counter(400)), False)

    def test_infinitely_many_on_one_track_only(self):
        self.assertIs(is_finite(machine_of("x = 3 & y >= 0")), False)
        self.assertIs(is_finite(machine_of("y = 3 & x >= 0")), False)

    def test_lengths_that_are_far_apart(self):
        # The numbers with one digit 1, whose place is 4, 9, 14 and so on: of the lengths 7 to 13 they have 10 only.
        table = [*[[(state + 1) % 5, 5 if state == 4 else 6] for state in range(5)], [5, 6], [6, 6]]
        machine = Machine(1, table, [state == 5 for state in range(7)])
        self.assertEqual(first_numbers(machine, 3), [2 ** 4, 2 ** 9, 2 ** 14])
        self.assertIs(is_finite(machine), False)
        self.assertIsNone(count_all(machine))

    def test_zeros_are_no_digits(self):
        # The states behind the letter 0 go round, but they do not make tuples longer.
        self.assertEqual(count_all(Machine(1, [[0, 1], [1, 1]], [True, False])), 1)
        self.assertEqual(count_all(Machine(1, [[1, 2], [0, 2], [2, 2]], [True, True, False])), 1)


class FirstNumbers(RefusalTests):
    def test_the_example(self):
        self.assertEqual(first_numbers(machine_of("x < 5"), 3), [0, 1, 2])

    def test_by_trying_numbers(self):
        for machine in [machine for machine in MACHINES if machine.width == 1]:
            taken = [number for number in range(300) if machine.takes((number,))]
            for limit in (0, 1, 2, 5, 9):
                if len(taken) >= limit:
                    found = first_numbers(machine, limit)
                    self.assertEqual(found, taken[:limit])
                    self.assertIs(type(found), list)

    def test_all_of_them_if_there_are_fewer(self):
        self.assertEqual(first_numbers(machine_of("x < 5"), 5), [0, 1, 2, 3, 4])
        self.assertEqual(first_numbers(machine_of("x < 5"), 6), [0, 1, 2, 3, 4])
        self.assertEqual(first_numbers(machine_of("x = 9 | x = 200"), 100), [9, 200])
        self.assertEqual(first_numbers(all_or_none(1, False), 10), [])

    def test_large_numbers(self):
        self.assertEqual(first_numbers(powers(), 60), [2 ** place for place in range(60)])
        self.assertEqual(first_numbers(at_most([-1], 10 ** 30)[0], 2), [10 ** 30, 10 ** 30 + 1])

    def test_the_samples(self):
        for formula, _ in samples():
            machine = compile_formula(sample_book(), formula)[1]
            if machine.width == 1:
                found = first_numbers(machine, 4)
                self.assertEqual(found, [number for number in range(210) if machine.takes((number,))][:4])

    def test_what_next_number_refuses(self):
        machine = counter(400)
        self.assertEqual(first_numbers(machine, 1), [0])
        self.refused(Oversized, "states", next_number, machine, 1)
        self.refused(Oversized, "states", first_numbers, machine, 2)
        self.assertEqual(first_numbers(machine, 0), [])


class Arguments(unittest.TestCase):
    def test_they_stay_as_they_were(self):
        for machine in MACHINES:
            before = machine.shape()
            count_below(machine, 3)
            is_finite(machine)
            count_all(machine)
            if machine.width == 1:
                first_numbers(machine, 2).clear()
            self.assertEqual(machine.shape(), before)


if __name__ == "__main__":
    unittest.main()
