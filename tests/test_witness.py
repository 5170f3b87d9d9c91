"""Tests of points 41.1 and 41.2."""

import itertools
import unittest

from digitwise.book import Book
from digitwise.compiler import compile_formula
from digitwise.errors import Misused, Oversized, Unknown
from digitwise.formulas import free_names
from digitwise.least import least
from digitwise.linear import at_most, equation
from digitwise.machine import Machine, all_or_none
from digitwise.parser import parse_formula
from digitwise.products import both, complement
from digitwise.project import some
from digitwise.told import powers
from digitwise.tracks import spread
from digitwise.witness import least_number, least_tuple, next_number, witness
from tests.machines import counter, doubles, equal_numbers, odd_digits, random_machines, walk
from tests.meaning import sample_book, samples, tried
from tests.refusals import RefusalTests


def machine_of(text):
    return compile_formula(sample_book(), parse_formula(text))[1]


def book_of_number(times):
    """Return a book with a definition that holds only for 8 times 16 to the power of this."""
    book = Book()
    book.define("d0", ("x",), parse_formula("x = 8"))
    for index in range(1, times + 1):
        book.define(f"d{index}", ("x",), parse_formula(f"some y: x = 16 * y & d{index - 1}(y)"))
    return book


class LeastNumbers(RefusalTests):
    def test_random_machines(self):
        for machine in random_machines(61, [1], 60):
            # The shortest accepted word has fewer letters than there are states.
            wanted = [number for number in range(2 ** machine.size) if machine.takes((number,))]
            self.assertEqual(least_number(machine), wanted[0] if wanted else None)

    def test_small_ones(self):
        for machine, wanted in [
            (all_or_none(1, True), 0), (all_or_none(1, False), None), (odd_digits(), 1), (complement(odd_digits()), 0),
            (powers(), 1), (equation([1], -12)[0], 12), (at_most([-1], 12)[0], 12), (walk(5, 3), None),
            (machine_of("x > 4 & pow(x)"), 8), (machine_of("x > 20 & T[x] = 0 & even(x)"), 24),
            (machine_of("some y: x = 3 * y + 7"), 7),
        ]:
            found = least_number(machine)
            self.assertEqual((found, type(found)), (wanted, type(wanted)))

    def test_the_digits_are_chosen_from_the_most_significant_one(self):
        # 2 ** 3 + 1 and 2 ** 2 + 2 ** 1: the least number has the shorter word, though it has more digits 1.
        self.assertEqual(least_number(machine_of("x = 9 | x = 6")), 6)
        # 13 has a 0 where 14 has one further up.
        self.assertEqual(least_number(machine_of("x = 13 | x = 14")), 13)
        self.assertEqual(least_number(machine_of("x = 14 | x = 13 | x = 11")), 11)

    def test_states_that_cannot_be_reached(self):
        machine = Machine(1, [[0, 0], [1, 1], [1, 2]], [False, True, True])
        self.assertIsNone(least_number(machine))

    def test_large_numbers(self):
        self.assertEqual(least_number(equation([1], -10 ** 100)[0]), 10 ** 100)
        self.assertEqual(least_number(at_most([-1], 10 ** 50)[0]), 10 ** 50)
        table = [[state, min(state + 1, 399)] for state in range(400)]
        self.assertEqual(least_number(Machine(1, table, [state == 399 for state in range(400)])), 2 ** 399 - 1)


class NextNumbers(RefusalTests):
    def test_random_machines(self):
        for machine in random_machines(62, [1], 40):
            taken = [number for number in range(400) if machine.takes((number,))]
            for start in range(0, 100, 7):
                behind = [number for number in taken if number >= start]
                found = next_number(machine, start)
                if behind:
                    self.assertEqual(found, behind[0])
                else:
                    self.assertTrue(found is None or found >= 400)

    def test_small_ones(self):
        self.assertEqual([next_number(powers(), start) for start in range(6)], [1, 1, 2, 4, 4, 8])
        self.assertEqual([next_number(odd_digits(), start) for start in range(6)], [1, 1, 2, 4, 4, 7])
        self.assertEqual([next_number(equation([1], -3)[0], start) for start in (0, 3, 4)], [3, 3, None])
        self.assertIsNone(next_number(all_or_none(1, False), 0))
        self.assertEqual(next_number(all_or_none(1, True), 10 ** 30), 10 ** 30)
        self.assertEqual(next_number(powers(), 2 ** 90 + 1), 2 ** 91)

    def test_the_number_of_states(self):
        # Behind the start, the machine of `0 - x <= 0` has one state and that of `1 - x <= 0` two.
        self.assertEqual(next_number(counter(400), 0), 0)
        self.assertEqual(both(counter(399), at_most([-1], 1)[0], "and").size, 400)
        self.assertEqual(next_number(counter(399), 1), 2 ** 399 - 1)
        self.refused(Oversized, "states", next_number, counter(400), 1)
        self.assertEqual(next_number(all_or_none(1, True), 2 ** 390), 2 ** 390)
        self.refused(Oversized, "states", next_number, all_or_none(1, True), 2 ** 400)
        self.refused(Oversized, "states", next_number, all_or_none(1, True), 5 ** 150)


class LeastTuples(RefusalTests):
    def test_width_0(self):
        self.assertEqual(least_tuple(all_or_none(0, True)), ())
        self.assertIsNone(least_tuple(all_or_none(0, False)))
        self.assertEqual(least_tuple(Machine(0, [[1], [0]], [True, True])), ())

    def test_random_machines(self):
        for machine in random_machines(63, [1], 20):
            number = least_number(machine)
            self.assertEqual(least_tuple(machine), None if number is None else (number,))
        for machine in random_machines(64, [2], 30):
            # Behind the digits of the first number the second one needs no more digits than there are states.
            tuples = itertools.product(range(8), range(2 ** (3 + machine.size)))
            wanted = next((numbers for numbers in tuples if machine.takes(numbers)), None)
            found = least_tuple(machine)
            if wanted is None:
                self.assertTrue(found is None or found[0] >= 8)
            else:
                self.assertEqual(found, wanted)
        for machine in random_machines(65, [3], 20):
            found = least_tuple(machine)
            if found is not None:
                self.assertIs(machine.takes(found), True)
                smaller = itertools.product(range(min(found[0] + 1, 9)), range(30), range(30))
                self.assertEqual([each for each in smaller if each < found and machine.takes(each)], [])
            else:
                self.assertEqual([each for each in itertools.product(range(9), repeat=3) if machine.takes(each)], [])

    def test_the_order_of_the_tuples(self):
        # The first number is the least one there is, however large the others become by it.
        self.assertEqual(least_tuple(machine_of("x + y = 100")), (0, 100))
        self.assertEqual(least_tuple(machine_of("x > y & pow(y)")), (2, 1))
        self.assertEqual(least_tuple(machine_of("2 * x + z > y + 7 & y > 3")), (0, 4, 12))
        self.assertEqual(least_tuple(machine_of("(x = 1 & y = 0) | (x = 0 & y = 200)")), (0, 200))
        self.assertEqual(least_tuple(machine_of("a < b & b < c & c < d & d < e & e < f")), (0, 1, 2, 3, 4, 5))
        self.assertEqual(least_tuple(doubles()), (0, 0))
        self.assertEqual(least_tuple(both(doubles(), complement(equal_numbers()), "and")), (2, 1))

    def test_none(self):
        for text in ["x < x", "x < y & y < x", "x = 2 * y & x = 2 * z + 1"]:
            self.assertIsNone(least_tuple(machine_of(text)))
        for width in range(7):
            self.assertIsNone(least_tuple(all_or_none(width, False)))
            self.assertEqual(least_tuple(all_or_none(width, True)), (0,) * width)

    def test_the_kinds_of_values(self):
        found = least_tuple(machine_of("x > y & pow(y)"))
        self.assertEqual([type(each) for each in [found, *found]], [tuple, int, int])

    def test_64_digits_and_one_more(self):
        for number in (2 ** 63, 2 ** 64 - 1):
            self.assertEqual(least_tuple(equation([1], -number)[0]), (number,))
            self.assertEqual(least_tuple(spread(equation([1], -number)[0], (0,), 2)), (number, 0))
            self.assertEqual(least_tuple(spread(equation([1], -number)[0], (1,), 2)), (0, number))
        for number in (2 ** 64, 2 ** 64 + 1, 2 ** 200):
            self.refused(Oversized, "number", least_tuple, equation([1], -number)[0])
            self.refused(Oversized, "number", least_tuple, spread(equation([1], -number)[0], (0,), 2))
            self.refused(Oversized, "number", least_tuple, spread(equation([1], -number)[0], (1,), 2))

    def test_machines_of_which_a_track_cannot_be_taken_out(self):
        # It guesses on the track 1 from where the digits 1 of the track 0 are counted.
        table = [[0, 0, 0, 1], *[[min(state + 1, 12)] * 4 for state in range(1, 13)]]
        machine = Machine(2, table, [False] * 13)
        self.refused(Oversized, "states", least_tuple, machine)

    def test_the_tracks_are_taken_out_of_the_machines_as_they_are(self):
        # The machine without track 1 is not made least before track 2, now track 1, is taken out of it.
        machine = machine_of("6 * c > b + 30 | a <= 3 * b")
        self.assertIsInstance(some(least(some(machine, 1)), 1), Machine)
        self.refused(Oversized, "states", some, some(machine, 1), 1)
        self.refused(Oversized, "states", least_tuple, machine)


class Witnesses(RefusalTests):
    def test_the_example(self):
        found = witness(Book(), parse_formula("x > y & pow(y)"))
        self.assertEqual(found, {"x": 2, "y": 1})
        self.assertEqual((type(found), list(found)), (dict, ["x", "y"]))

    def test_the_order_of_the_names(self):
        found = witness(Book(), parse_formula("z = 3 & a = z + 1 & k = 2 * a"))
        self.assertEqual(list(found.items()), [("a", 4), ("k", 8), ("z", 3)])

    def test_closed_formulas(self):
        self.assertEqual(witness(Book(), parse_formula("some x: x = 3")), {})
        self.assertIsNone(witness(Book(), parse_formula("all x: x = 3")))

    def test_the_samples(self):
        book = sample_book()
        for formula, bound in samples():
            names, machine = compile_formula(book, formula)
            found = witness(book, formula)
            small = [numbers for numbers, wanted in tried(book, formula, bound) if wanted]
            if found is None:
                self.assertEqual((small, machine.shape()), ([], all_or_none(len(names), False).shape()))
                continue
            self.assertEqual(list(found), free_names(formula))
            self.assertIs(machine.takes(tuple(found.values())), True)
            if small:
                self.assertLessEqual(tuple(found.values()), small[0])
            self.assertEqual(tuple(found.values()), least_tuple(machine))

    def test_large_numbers(self):
        book = book_of_number(16)
        self.assertEqual(witness(book, parse_formula("d15(q)")), {"q": 2 ** 63})
        self.assertEqual(witness(book, parse_formula("d15(q) & a + q = 2 * b")), {"a": 0, "b": 2 ** 62, "q": 2 ** 63})
        # As point 13.2's `fix` refuses it.
        self.refused(Oversized, "number", witness, book, parse_formula("d16(q)"))
        self.refused(Oversized, "number", witness, book, parse_formula("d15(q) & a < b & b = 2 * q + 9 & a > q + q"))

    def test_what_compile_formula_refuses(self):
        for error, field, text in [
            (Unknown, "U", "U[x] = 1 & 201 * x + 199 * y <= 0"), (Unknown, "f", "f(x)"),
            (Misused, "count", "even(x, y) & a + b + c + d + e + f + g = 1"),
            (Oversized, "width", "a + b + c + d + e + f + g = 1"), (Oversized, "states", "201 * x + 199 * y <= 0"),
        ]:
            self.refused(error, field, witness, sample_book(), parse_formula(text))


class Arguments(RefusalTests):
    def test_they_stay_as_they_were(self):
        for machine in [odd_digits(), equation([1], -12)[0]]:
            before = machine.shape()
            least_number(machine)
            next_number(machine, 5)
            least_tuple(machine)
            self.assertEqual(machine.shape(), before)
        machine = doubles()
        least_tuple(machine)
        self.assertEqual(machine.shape(), doubles().shape())


if __name__ == "__main__":
    unittest.main()
