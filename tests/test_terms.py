"""Tests of points 3.1 and 3.2."""

import copy
import unittest

from digitwise.errors import Oversized, Unknown
from digitwise.terms import is_term, linear, minus, plus, rename_term, show_term, times, value

X = ((("x", 1),), 0)
Y = ((("y", 1),), 0)
MIXED = ((("x", -1), ("y", 2), ("z", 3)), -4)
SOME_TERMS = [
    ((), 0), ((), 5), ((), -255), X, Y, MIXED, ((("a", 100), ("x", -7)), 20), ((("y", -2),), 1),
]
NUMBERS = {"a": 3, "x": 5, "y": 7, "z": 0}


class TermTests(unittest.TestCase):
    def too_large(self, function, *arguments):
        with self.assertRaises(Oversized) as caught:
            function(*arguments)
        self.assertEqual(caught.exception.limit, "term")


class Linear(TermTests):
    def test_the_example(self):
        self.assertEqual(linear([("y", 2), ("x", -1), ("y", -2)], 7), ((("x", -1),), 7))

    def test_no_pairs(self):
        self.assertEqual(linear([], 0), ((), 0))
        self.assertEqual(linear([], -3), ((), -3))

    def test_names_ascend(self):
        self.assertEqual(
            linear([("z", 1), ("b", 2), ("x10", 5), ("x2", 4), ("x", 3), ("a", 6)], 0),
            ((("a", 6), ("b", 2), ("x", 3), ("x10", 5), ("x2", 4), ("z", 1)), 0),
        )

    def test_equal_names_are_added_up(self):
        self.assertEqual(linear([("x", 1), ("x", 1), ("y", 1), ("x", 1)], 1), ((("x", 3), ("y", 1)), 1))

    def test_sums_of_0_are_left_out(self):
        self.assertEqual(linear([("x", 2), ("y", 1), ("x", -2)], 0), ((("y", 1),), 0))
        self.assertEqual(linear([("x", 0)], 9), ((), 9))
        self.assertEqual(linear([("x", 1000), ("x", -1000)], 0), ((), 0))

    def test_the_limits_of_coefficients(self):
        self.assertEqual(linear([("x", 255)], 0), ((("x", 255),), 0))
        self.assertEqual(linear([("x", -255)], 0), ((("x", -255),), 0))
        self.too_large(linear, [("x", 256)], 0)
        self.too_large(linear, [("x", -256)], 0)
        self.too_large(linear, [("a", 1), ("x", 256), ("z", 1)], 0)

    def test_the_limits_of_the_constant(self):
        self.assertEqual(linear([], 255), ((), 255))
        self.assertEqual(linear([], -255), ((), -255))
        self.too_large(linear, [], 256)
        self.too_large(linear, [], -256)
        self.too_large(linear, [("x", 1)], 10 ** 30)

    def test_only_the_sums_are_asked(self):
        self.assertEqual(linear([("x", 300), ("x", -100)], 0), ((("x", 200),), 0))
        self.assertEqual(linear([("x", 10 ** 30), ("y", 1), ("x", 1 - 10 ** 30)], 0), ((("x", 1), ("y", 1)), 0))
        self.too_large(linear, [("x", 200), ("x", 56)], 0)
        self.too_large(linear, [("x", -200), ("x", -56)], 0)

    def test_the_pairs_stay_as_they_were(self):
        pairs = [("y", 2), ("x", -1), ("y", -2)]
        linear(pairs, 7)
        self.assertEqual(pairs, [("y", 2), ("x", -1), ("y", -2)])

    def test_the_result_is_a_term(self):
        self.assertIs(is_term(linear([("y", 2), ("x", -1), ("y", 3), ("z", 0)], -255)), True)


class Sums(TermTests):
    def test_plus(self):
        self.assertEqual(plus(X, Y), ((("x", 1), ("y", 1)), 0))
        self.assertEqual(plus(Y, X), ((("x", 1), ("y", 1)), 0))
        self.assertEqual(plus(X, X), ((("x", 2),), 0))
        self.assertEqual(plus(MIXED, ((("x", 1), ("y", -2)), 4)), ((("z", 3),), 0))

    def test_minus(self):
        self.assertEqual(minus(X, Y), ((("x", 1), ("y", -1)), 0))
        self.assertEqual(minus(Y, X), ((("x", -1), ("y", 1)), 0))
        self.assertEqual(minus(MIXED, MIXED), ((), 0))
        self.assertEqual(minus(((), 3), MIXED), ((("x", 1), ("y", -2), ("z", -3)), 7))

    def test_times(self):
        self.assertEqual(times(3, MIXED), ((("x", -3), ("y", 6), ("z", 9)), -12))
        self.assertEqual(times(-1, MIXED), ((("x", 1), ("y", -2), ("z", -3)), 4))
        self.assertEqual(times(1, MIXED), MIXED)
        self.assertEqual(times(0, MIXED), ((), 0))
        self.assertEqual(times(10 ** 30, ((), 0)), ((), 0))

    def test_the_limits_of_plus(self):
        most = ((("x", 255),), 255)
        least = ((("x", -255),), -255)
        self.assertEqual(plus(most, least), ((), 0))
        self.assertEqual(plus(((("x", 254),), 254), ((("x", 1),), 1)), most)
        self.too_large(plus, most, X)
        self.too_large(plus, most, ((), 1))
        self.too_large(plus, least, ((("x", -1),), 0))
        self.too_large(plus, least, ((), -1))

    def test_the_limits_of_minus(self):
        most = ((("x", 255),), 255)
        least = ((("x", -255),), -255)
        self.assertEqual(minus(((), 0), most), least)
        self.assertEqual(minus(((("x", -254),), -254), ((("x", 1),), 1)), least)
        self.too_large(minus, least, X)
        self.too_large(minus, least, ((), 1))
        self.too_large(minus, most, ((("x", -1),), 0))
        self.too_large(minus, most, ((), -1))

    def test_the_limits_of_times(self):
        self.assertEqual(times(255, ((("x", 1),), -1)), ((("x", 255),), -255))
        self.assertEqual(times(-51, ((("x", 5),), -5)), ((("x", -255),), 255))
        self.too_large(times, 256, X)
        self.too_large(times, -256, X)
        self.too_large(times, 128, ((), 2))
        self.too_large(times, 2, ((), -128))

    def test_the_values_fit(self):
        for one in SOME_TERMS:
            self.assertEqual(value(times(-1, one), NUMBERS), -value(one, NUMBERS))
            for two in [X, Y, ((("y", -2),), 0), ((), 0)]:
                self.assertEqual(value(plus(one, two), NUMBERS), value(one, NUMBERS) + value(two, NUMBERS))
                self.assertEqual(value(minus(one, two), NUMBERS), value(one, NUMBERS) - value(two, NUMBERS))


class Value(unittest.TestCase):
    def test_ordinary_values(self):
        self.assertEqual(value(MIXED, NUMBERS), -5 + 14 + 0 - 4)
        self.assertEqual(value(X, {"x": 10 ** 30}), 10 ** 30)
        self.assertEqual(value(((("x", -3),), 1), {"x": 2}), -5)

    def test_a_term_without_names(self):
        self.assertEqual(value(((), -7), {}), -7)
        self.assertEqual(value(((), 0), NUMBERS), 0)

    def test_the_first_name_that_is_missing(self):
        cases = [({}, "x"), ({"x": 1}, "y"), ({"x": 1, "y": 1}, "z"), ({"y": 1}, "x"), ({"z": 0, "a": 0}, "x")]
        for numbers, missing in cases:
            with self.assertRaises(Unknown) as caught:
                value(MIXED, numbers)
            self.assertEqual(caught.exception.name, missing)

    def test_the_numbers_stay_as_they_were(self):
        numbers = {"x": 1, "y": 2, "z": 3, "a": 4}
        value(MIXED, numbers)
        self.assertEqual(list(numbers.items()), [("x", 1), ("y", 2), ("z", 3), ("a", 4)])


class IsTerm(unittest.TestCase):
    def test_terms(self):
        for term in [*SOME_TERMS, ((("x", 255), ("x1", -255)), 255), ((("x10", 1), ("x2", 1)), 0)]:
            self.assertIs(is_term(term), True, term)

    def test_wrong_coefficients(self):
        for coefficient in [0, 256, -256, 10 ** 30, True, False, None, "1", 1.0, (1,)]:
            self.assertIs(is_term(((("x", coefficient),), 0)), False, coefficient)

    def test_wrong_constants(self):
        for constant in [256, -256, True, False, None, "0", 0.0, ()]:
            self.assertIs(is_term(((), constant)), False, constant)
            self.assertIs(is_term(((("x", 1),), constant)), False, constant)

    def test_wrong_names(self):
        for name in ["", "X", "some", "x y", "abcdefghijklm", 1, None, ("x",), ["x"], b"x"]:
            self.assertIs(is_term((((name, 1),), 0)), False, name)

    def test_names_that_do_not_ascend_or_are_equal(self):
        self.assertIs(is_term(((("y", 1), ("x", 1)), 0)), False)
        self.assertIs(is_term(((("x", 1), ("x", 1)), 0)), False)
        self.assertIs(is_term(((("x", 1), ("z", 1), ("y", 1)), 0)), False)
        self.assertIs(is_term(((("x", 1), ("y", 1), ("x", 1)), 0)), False)

    def test_wrong_forms(self):
        for given in [
            None, 0, True, "", "xy", b"ab", (), [], {}, object(), ((),), ((), 0, 0), (0, ()), [(), 0], ([], 0), ("", 0),
            ({}, 0), ([("x", 1)], 0), ((["x", 1],), 0), (("x", 1), 0), ((("x",),), 0), ((("x", 1, 1),), 0), (((),), 0),
            ((None,), 0), (("x1",), 0), (None, 0), ("eq", ((), 0)),
        ]:
            self.assertIs(is_term(given), False, given)


class RenameTerm(TermTests):
    def test_ordinary_renaming(self):
        self.assertEqual(rename_term(MIXED, {"x": "zz"}), ((("y", 2), ("z", 3), ("zz", -1)), -4))
        self.assertEqual(rename_term(MIXED, {}), MIXED)
        self.assertEqual(rename_term(MIXED, {"a": "b"}), MIXED)
        self.assertEqual(rename_term(((), 3), {"x": "y"}), ((), 3))

    def test_several_names_at_once(self):
        self.assertEqual(rename_term(MIXED, {"x": "y", "y": "x"}), ((("x", 2), ("y", -1), ("z", 3)), -4))
        self.assertEqual(rename_term(MIXED, {"x": "y", "y": "z", "z": "x"}), ((("x", 3), ("y", -1), ("z", 2)), -4))

    def test_equal_names_are_added_up(self):
        self.assertEqual(rename_term(MIXED, {"x": "y"}), ((("y", 1), ("z", 3)), -4))
        self.assertEqual(rename_term(((("x", 2), ("y", -2)), 1), {"y": "x"}), ((), 1))

    def test_the_limits(self):
        self.assertEqual(rename_term(((("x", 200), ("y", 55)), 0), {"x": "y"}), ((("y", 255),), 0))
        self.too_large(rename_term, ((("x", 200), ("y", 56)), 0), {"x": "y"})
        self.too_large(rename_term, ((("x", -200), ("y", -56)), 0), {"y": "x"})

    def test_the_names_stay_as_they_were(self):
        names = {"x": "y", "b": "c"}
        rename_term(MIXED, names)
        self.assertEqual(names, {"x": "y", "b": "c"})


class ShowTerm(unittest.TestCase):
    def test_each_form(self):
        cases = {
            ((("x", -1),), 7): "-x + 7",
            ((), 0): "0",
            ((), 5): "5",
            ((), -5): "-5",
            X: "x",
            ((("x", -1),), 0): "-x",
            ((("x", 3),), 0): "3 * x",
            ((("x", -3),), 0): "-3 * x",
            ((("x", 2),), -1): "2 * x - 1",
            ((("x", 1), ("y", -2)), 0): "x - 2 * y",
            ((("x", 1), ("y", -1)), 0): "x - y",
            ((("x", 1), ("y", 1)), 1): "x + y + 1",
            ((("x", -255), ("y", 255)), -255): "-255 * x + 255 * y - 255",
            MIXED: "-x + 2 * y + 3 * z - 4",
        }
        for term, text in cases.items():
            self.assertEqual(show_term(term), text)


class ArgumentsStay(unittest.TestCase):
    def test_terms_stay_as_they_were(self):
        before = copy.deepcopy(MIXED)
        plus(MIXED, X)
        minus(MIXED, X)
        times(2, MIXED)
        value(MIXED, NUMBERS)
        is_term(MIXED)
        rename_term(MIXED, {"x": "y"})
        show_term(MIXED)
        self.assertEqual(MIXED, before)


if __name__ == "__main__":
    unittest.main()
