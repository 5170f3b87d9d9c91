"""Tests of point 15.1."""

import itertools
import random
import unittest

from digitwise.digits import letters
from digitwise.errors import Misused
from digitwise.least import apart, classes, least, least_with_map, same
from digitwise.linear import at_most, equation
from digitwise.machine import Machine, all_or_none
from digitwise.products import both, complement
from digitwise.tracks import spread
from tests.machines import (
    counter, doubles, equal_numbers, is_numbered, odd_digits, random_machine, random_machines, tuples, walk,
)


def parted(machine):
    """Return the set of the pairs of states that some word parts, found otherwise than by classes."""
    found = {
        (one, two) for one in range(machine.size) for two in range(machine.size)
        if machine.accepting[one] != machine.accepting[two]
    }
    while True:
        more = {
            (one, two) for one in range(machine.size) for two in range(machine.size)
            if any([pair in found for pair in zip(machine.table[one], machine.table[two])])
        }
        if more <= found:
            return found
        found |= more


def first_parting(one, two, limit):
    """Return the first word of at most so many letters that exactly one machine accepts, or None."""
    for length in range(limit + 1):
        for word in itertools.product(range(letters(one.width)), repeat=length):
            if one.accepts(word) != two.accepts(word):
                return list(word)
    return None


def shuffled(machine, order):
    """Return a machine with its states in another order, 0 staying the first."""
    places = {state: place for place, state in enumerate(order)}
    table = [[places[behind] for behind in machine.table[state]] for state in order]
    return Machine(machine.width, table, [machine.accepting[state] for state in order])


MACHINES = [
    odd_digits(), doubles(), equal_numbers(), all_or_none(0, True), all_or_none(2, False), walk(3, 4), counter(6),
    Machine(1, [[0, 1], [1, 2], [2, 3], [3, 0]], [True, False, True, False]),
    Machine(0, [[1], [2], [1]], [True, True, True]),
    *random_machines(51, [0, 1, 2, 3], 20),
]


class Classes(unittest.TestCase):
    def test_alike_and_not_alike(self):
        for machine in MACHINES:
            found, wanted = classes(machine), parted(machine)
            self.assertIs(type(found), list)
            self.assertEqual(len(found), machine.size)
            for one, two in itertools.product(range(machine.size), repeat=2):
                self.assertEqual(found[one] != found[two], (one, two) in wanted)

    def test_the_order_of_the_integers(self):
        for machine in MACHINES:
            found = classes(machine)
            firsts = [each for place, each in enumerate(found) if each not in found[:place]]
            self.assertEqual(firsts, list(range(len(firsts))))
            self.assertEqual({type(each) for each in found}, {int})

    def test_small_machines(self):
        self.assertEqual(classes(odd_digits()), [0, 1])
        self.assertEqual(classes(walk(3, 4)), [0] * 7)
        machine = Machine(1, [[0, 1], [1, 2], [2, 3], [3, 0]], [True, False, True, False])
        self.assertEqual(classes(machine), [0, 1, 0, 1])
        self.assertEqual(classes(doubles()), [0, 1, 2])

    def test_states_that_cannot_be_reached_are_asked_too(self):
        machine = Machine(1, [[0, 0], [1, 1], [2, 1], [3, 0]], [True, False, True, True])
        self.assertEqual(classes(machine), [0, 1, 2, 0])

    def test_long_words_that_part(self):
        self.assertEqual(classes(counter(400)), list(range(400)))
        # From each state another number of digits 1 leads to the last state.
        table = [[state, min(state + 1, 399)] for state in range(400)]
        self.assertEqual(classes(Machine(1, table, [state == 399 for state in range(400)])), list(range(400)))


class Least(unittest.TestCase):
    def check(self, machine):
        smallest, states = least_with_map(machine)
        self.assertEqual([type(least_with_map(machine)), type(smallest), type(states)], [tuple, Machine, list])
        self.assertEqual(least(machine).shape(), smallest.shape())
        self.assertEqual(smallest.width, machine.width)
        self.assertTrue(is_numbered(smallest))
        self.assertEqual(classes(smallest), list(range(smallest.size)))
        self.assertEqual(len(states), machine.size)
        return smallest, states

    def test_the_example(self):
        machine = both(odd_digits(), complement(odd_digits()), "and")
        self.assertEqual(machine.size, 2)
        self.assertEqual(least(machine).shape(), (1, ((0, 0),), (False,)))

    def test_what_it_takes(self):
        for machine in MACHINES:
            smallest, _ = self.check(machine)
            for numbers in tuples(machine.width, 9):
                self.assertIs(smallest.takes(numbers), machine.takes(numbers))
            self.assertIsNone(first_parting(smallest, machine, 12 // (machine.width + 1)))

    def test_the_map(self):
        for machine in MACHINES:
            smallest, states = self.check(machine)
            found = classes(machine)
            reached = [0]
            for state in reached:
                reached.extend([each for each in machine.table[state] if each not in reached])
            self.assertEqual(states[0], 0)
            for state in range(machine.size):
                alike = [each for each in reached if found[each] == found[state]]
                if not alike:
                    self.assertIsNone(states[state])
                    continue
                self.assertEqual({states[each] for each in alike}, {states[state]})
                self.assertEqual(smallest.accepting[states[state]], machine.accepting[state])
                behind = [states[each] for each in machine.table[state]]
                self.assertEqual(smallest.table[states[state]], behind)
            self.assertEqual(sorted({each for each in states if each is not None}), list(range(smallest.size)))

    def test_states_that_cannot_be_reached(self):
        # State 3 is like state 0, and no state that is reached is like state 1 or 2.
        machine = Machine(1, [[0, 0], [1, 1], [2, 1], [3, 0]], [True, False, True, True])
        smallest, states = least_with_map(machine)
        self.assertEqual((smallest.shape(), states), ((1, ((0, 0),), (True,)), [0, None, None, 0]))

    def test_the_numbers_of_the_states(self):
        # A machine that is least but for the numbers of its states: 2 is found before 1.
        machine = Machine(1, [[0, 2], [1, 1], [2, 1]], [True, False, False])
        self.assertEqual(least(machine).shape(), (1, ((0, 1), (1, 1)), (True, False)))
        machine = Machine(1, [[2, 1], [1, 1], [2, 0]], [True, False, True])
        smallest, states = least_with_map(machine)
        self.assertEqual(smallest.table, [[1, 2], [1, 0], [2, 2]])
        self.assertEqual(states, [0, 2, 1])

    def test_it_is_the_only_one(self):
        for machine in MACHINES:
            smallest = least(machine)
            self.assertEqual(least(smallest).shape(), smallest.shape())
            order = [0, *range(smallest.size - 1, 0, -1)]
            self.assertEqual(least(shuffled(smallest, order)).shape(), smallest.shape())
            self.assertEqual(least(both(machine, machine, "and")).shape(), smallest.shape())

    def test_known_sizes(self):
        self.assertEqual(least(walk(3, 4)).size, 1)
        self.assertEqual(least(counter(400)).shape(), counter(400).shape())
        self.assertEqual(least(spread(counter(400), (3,), 6)).size, 400)
        # The labels between two multiples of 10 are alike but for those that the constant leads through.
        self.assertLess(least(at_most([10, 20, -30], 3)[0]).size, at_most([10, 20, -30], 3)[0].size)
        self.assertEqual(least(equation([], -8)[0]).size, 1)

    def test_the_machine_stays_as_it_was(self):
        for machine in MACHINES:
            before = machine.shape()
            smallest, states = least_with_map(machine)
            smallest.table[0][0] = 7
            smallest.accepting[0] = None
            states.clear()
            classes(machine).clear()
            self.assertEqual(machine.shape(), before)


class Comparing(unittest.TestCase):
    def pairs(self):
        for width in range(4):
            machines = random_machines(53 + width, [width], 6)
            machines += [all_or_none(width, True), all_or_none(width, False)]
            machines += [least(machines[0]), complement(machines[1])]
            yield from itertools.product(machines, repeat=2)

    def test_same(self):
        seen = set()
        for one, two in self.pairs():
            found = same(one, two)
            self.assertIs(type(found), bool)
            self.assertEqual(found, both(one, two, "iff").accepting.count(False) == 0)
            seen.add(found)
        self.assertEqual(seen, {True, False})

    def test_machines_of_other_widths_are_not_the_same(self):
        for one, two in itertools.permutations([0, 1, 2, 6], 2):
            self.assertIs(same(all_or_none(one, True), all_or_none(two, True)), False)
            self.assertIs(same(all_or_none(one, False), all_or_none(two, False)), False)

    def test_apart_returns_the_first_of_the_shortest_words(self):
        for one, two in self.pairs():
            limit = {0: 12, 1: 11, 2: 5, 3: 3}[one.width]
            wanted = first_parting(one, two, limit)
            found = apart(one, two)
            if wanted is None:
                self.assertTrue(found is None or len(found) > limit)
                self.assertEqual(found is None, same(one, two))
            else:
                self.assertEqual(found, wanted)
                self.assertIs(type(found), list)

    def test_small_ones(self):
        self.assertEqual(apart(odd_digits(), complement(odd_digits())), [])
        self.assertIsNone(apart(odd_digits(), odd_digits()))
        self.assertEqual(apart(odd_digits(), all_or_none(1, False)), [1])
        self.assertEqual(apart(doubles(), equal_numbers()), [3])
        self.assertEqual(apart(doubles(), all_or_none(2, False)), [])
        self.assertEqual(apart(doubles(), equation([1, 1], 0)[0]), [2, 1])
        self.assertEqual(apart(equation([1, -2], 0)[0], at_most([1, -2], 0)[0]), [2])
        self.assertIsNone(apart(all_or_none(0, True), Machine(0, [[1], [0]], [True, True])))
        self.assertEqual(apart(all_or_none(0, True), all_or_none(0, False)), [])
        self.assertEqual(apart(equation([1], -12)[0], all_or_none(1, False)), [0, 0, 1, 1])

    def test_long_words(self):
        self.assertEqual(apart(counter(400), counter(399)), [1] * 399)
        self.assertEqual(apart(spread(counter(200), (2,), 3), spread(counter(100), (2,), 3)), [4] * 100)
        self.assertIsNone(apart(spread(counter(400), (5,), 6), spread(counter(400), (5,), 6)))

    def test_more_than_400_pairs(self):
        # The product of these machines would be too large.
        self.assertEqual(apart(counter(19), counter(23)), [1] * 19)
        one, two = walk(3, 397), walk(200, 199)
        self.assertIsNone(apart(one, two))
        self.assertIs(same(one, two), True)
        self.assertEqual(apart(one, complement(two)), [])

    def test_apart_refuses_other_widths(self):
        machines = [odd_digits(), doubles(), all_or_none(0, True), all_or_none(6, False)]
        for one, two in itertools.permutations(machines, 2):
            with self.assertRaises(Misused) as caught:
                apart(one, two)
            self.assertEqual(caught.exception.why, "width")

    def test_the_machines_stay_as_they_were(self):
        one, two = doubles(), equal_numbers()
        apart(one, two).clear()
        same(one, two)
        self.assertEqual((one.shape(), two.shape()), (doubles().shape(), equal_numbers().shape()))

    def test_more_random_machines(self):
        source = random.Random(57)
        for _ in range(60):
            one, two = random_machine(source, 1, 9), random_machine(source, 1, 9)
            self.assertEqual(apart(one, two), first_parting(one, two, 11))


if __name__ == "__main__":
    unittest.main()
