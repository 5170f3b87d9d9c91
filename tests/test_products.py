"""Tests of points 12.1 and 12.2."""

import itertools
import unittest

from digitwise.errors import Misused, Oversized
from digitwise.machine import Machine, all_or_none
from digitwise.products import both, both_with_pairs, complement
from tests.machines import (
    counter, doubles, equal_numbers, is_numbered, leads, odd_digits, random_machines, tuples, walk,
)

MEANINGS = {
    "and": lambda first, second: first and second,
    "or": lambda first, second: first or second,
    "imp": lambda first, second: not first or second,
    "iff": lambda first, second: first == second,
}


class Products(unittest.TestCase):
    def refused(self, error, field, *arguments):
        for function in (both, both_with_pairs):
            with self.assertRaises(error) as caught:
                function(*arguments)
            self.assertEqual((type(caught.exception), *vars(caught.exception).values()), (error, field))

    def test_the_example(self):
        machine = odd_digits()
        product, pairs = both_with_pairs(machine, complement(machine), "and")
        self.assertEqual((product.size, pairs), (2, [(0, 0), (1, 1)]))
        self.assertEqual([number for number in range(50) if product.takes((number,))], [])
        self.assertEqual(both(machine, complement(machine), "and").shape(), product.shape())

    def test_the_kinds_of_values(self):
        found = both_with_pairs(odd_digits(), odd_digits(), "or")
        self.assertEqual([type(each) for each in [found, *found, found[1][0]]], [tuple, Machine, list, tuple])
        self.assertIs(type(both(odd_digits(), odd_digits(), "or")), Machine)

    def test_each_name_marks_each_pair(self):
        one = Machine(1, [[0, 1], [1, 0]], [False, True])
        two = Machine(1, [[0, 0], [1, 1]], [True, False])
        for name, marks, turned in [
            ("and", [False, True], [False, True]), ("or", [True, True], [True, True]),
            ("imp", [True, True], [False, True]), ("iff", [False, True], [False, True]),
        ]:
            self.assertEqual(both(one, two, name).accepting, marks)
            self.assertEqual(both(two, one, name).accepting, turned)

    def test_each_name_and_each_two_marks(self):
        for name, meaning in MEANINGS.items():
            for first, second in itertools.product((True, False), repeat=2):
                product = both(all_or_none(1, first), all_or_none(1, second), name)
                self.assertEqual(product.shape(), (1, ((0, 0),), (meaning(first, second),)))
                self.assertIs(product.accepting[0], meaning(first, second))

    def test_the_order_of_the_states(self):
        one = Machine(1, [[0, 1], [2, 0], [1, 2]], [True, False, False])
        two = Machine(1, [[1, 0], [0, 1]], [True, True])
        product, pairs = both_with_pairs(one, two, "and")
        self.assertEqual(pairs, [(0, 0), (0, 1), (1, 0), (1, 1), (2, 1), (2, 0)])
        self.assertEqual(product.table, [[1, 2], [0, 3], [4, 0], [5, 1], [2, 4], [3, 5]])

    def test_only_pairs_that_can_be_reached(self):
        one = Machine(1, [[0, 0], [1, 1], [0, 1]], [True, False, True])
        product, pairs = both_with_pairs(one, odd_digits(), "and")
        self.assertEqual(pairs, [(0, 0), (0, 1)])
        self.assertEqual(product.shape(), (1, ((0, 1), (1, 0)), (False, True)))

    def test_the_states_are_not_made_fewer(self):
        product, pairs = both_with_pairs(counter(3), counter(5), "or")
        self.assertEqual((product.size, len(set(pairs))), (15, 15))

    def test_it_reads_with_both_at_once(self):
        for width in range(4):
            machines = random_machines(width, [width], 5)
            for one, two in itertools.product(machines, repeat=2):
                for name, meaning in MEANINGS.items():
                    product, pairs = both_with_pairs(one, two, name)
                    self.assertEqual((pairs[0], product.width), ((0, 0), width))
                    self.assertEqual((len(set(pairs)), product.size), (len(pairs), len(pairs)))
                    self.assertTrue(is_numbered(product))

                    def follow(pair, letter):
                        return (one.table[pair[0]][letter], two.table[pair[1]][letter])

                    self.assertTrue(leads(product, pairs, follow))
                    marks = [meaning(one.accepting[first], two.accepting[second]) for first, second in pairs]
                    self.assertEqual(product.accepting, marks)

    def test_what_it_takes(self):
        one, two = equal_numbers(), doubles()
        for name, meaning in MEANINGS.items():
            product = both(one, two, name)
            for numbers in tuples(2, 9):
                self.assertIs(product.takes(numbers), meaning(one.takes(numbers), two.takes(numbers)))

    def test_widths_that_differ(self):
        machines = [all_or_none(0, True), odd_digits(), doubles(), all_or_none(6, True)]
        for one, two in itertools.permutations(machines, 2):
            for name in MEANINGS:
                self.refused(Misused, "width", one, two, name)

    def test_other_names(self):
        for name in ["", "not", "some", "all", "AND", "xor", "&", "eq"]:
            self.refused(Misused, "name", odd_digits(), odd_digits(), name)

    def test_the_number_of_states(self):
        self.assertEqual(both(counter(16), counter(25), "and").size, 400)
        self.assertEqual(both(counter(400), counter(1), "and").size, 400)
        self.assertEqual(both(counter(399), counter(399), "and").size, 399)
        self.assertEqual(both(walk(1, 399), walk(0, 1), "and").size, 400)
        self.assertEqual(both(walk(0, 16), walk(0, 25), "iff").size, 400)
        self.refused(Oversized, "states", walk(1, 16), walk(0, 25), "and")
        self.refused(Oversized, "states", counter(3), counter(134), "imp")
        self.refused(Oversized, "states", counter(399), counter(400), "iff")

    def test_the_order_of_the_conditions(self):
        self.refused(Misused, "width", odd_digits(), doubles(), "xor")
        self.refused(Misused, "name", counter(399), counter(400), "xor")

    def test_the_machines_stay_as_they_were(self):
        one, two = odd_digits(), counter(3)
        before = (one.shape(), two.shape())
        product, pairs = both_with_pairs(one, two, "or")
        product.table[0][0] = 1
        product.accepting[0] = True
        pairs.clear()
        self.assertEqual((one.shape(), two.shape()), before)


class Complements(unittest.TestCase):
    def test_the_same_table_and_each_mark_turned(self):
        for machine in [odd_digits(), doubles(), *random_machines(7, range(7), 4)]:
            turned = complement(machine)
            self.assertIs(type(turned), Machine)
            self.assertEqual((turned.width, turned.table), (machine.width, machine.table))
            self.assertEqual(turned.accepting, [not mark for mark in machine.accepting])
            self.assertEqual(complement(turned).shape(), machine.shape())

    def test_states_that_cannot_be_reached_stay(self):
        machine = Machine(1, [[0, 0], [1, 0]], [True, False])
        self.assertEqual(complement(machine).shape(), (1, ((0, 0), (1, 0)), (False, True)))

    def test_what_it_takes(self):
        for machine in [equal_numbers(), doubles()]:
            for numbers in tuples(2):
                self.assertIs(complement(machine).takes(numbers), not machine.takes(numbers))

    def test_the_largest_machines(self):
        self.assertEqual(complement(counter(400)).size, 400)

    def test_the_machine_stays_as_it_was(self):
        machine = odd_digits()
        turned = complement(machine)
        turned.table[0][0] = 1
        turned.accepting[0] = False
        self.assertEqual(machine.shape(), odd_digits().shape())


if __name__ == "__main__":
    unittest.main()
