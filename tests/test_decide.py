"""Tests of points 40.1 and 40.2."""

import itertools
import unittest

from digitwise.book import Book
from digitwise.compiler import compile_formula
from digitwise.decide import are_same, can_be_met, decide, difference, is_valid
from digitwise.errors import Misused, Oversized, Unknown
from digitwise.formulas import free_names
from digitwise.parser import parse_formula
from tests.meaning import holds, sample_book, samples
from tests.refusals import RefusalTests

WIDE = "a + b + c + d + e + f + g = 1"
LARGE = "201 * x + 199 * y <= 0"
# What compile_formula refuses, in the order in which it is asked.
REFUSED = [
    (Unknown, "U", f"({LARGE}) & U[x] = 1"), (Unknown, "g", f"{WIDE} & g(x)"),
    (Misused, "count", f"{WIDE} & even(x, y)"),
    (Unknown, "g", "g(x) & U[x] = 1"), (Oversized, "width", WIDE), (Oversized, "states", LARGE),
    (Oversized, "states", f"{LARGE} & {WIDE}"), (Oversized, "width", f"{WIDE} & {LARGE}"),
]


class Deciding(RefusalTests):
    def test_closed_formulas(self):
        for text, wanted in [
            ("1 = 1", True), ("1 = 2", False), ("3 <= 2", False), ("some x: x = 3", True), ("all x: x = 3", False),
            ("all x: some y: y > x & pow(y)", True), ("some x: all y: y <= x", False), ("some x: all y: y >= x", True),
            ("all x: some y: x = 2 * y | x = 2 * y + 1", True), ("all x: some y: x = 2 * y", False),
            ("all x: x > 7 => some y, z: x = 3 * y + 5 * z", True),
            ("all x: x > 6 => some y, z: x = 3 * y + 5 * z", False),
            ("all x: pow(x) => T[x] = 1", True), ("all x: T[x] = 1 => pow(x)", False), ("some y: x = 1 & 1 = 2", None),
            # `x = x` has no name at all.
            ("x = x", True), ("all x: even(x) <=> ~odd(x)", True), ("all x: K[x] = 7", True),
            ("some x: K[x] = 8", False),
            ("all x, y: x < y | y < x | x = y", True), ("some x: pow(x) & M[x] = 0", False),
        ]:
            if wanted is None:
                self.refused(Misused, "open", decide, sample_book(), parse_formula(text))
            else:
                self.assertIs(decide(sample_book(), parse_formula(text)), wanted)

    def test_the_samples(self):
        for formula, bound in samples():
            if free_names(formula):
                self.refused(Misused, "open", decide, sample_book(), formula)
            else:
                self.assertIs(decide(sample_book(), formula), holds(sample_book(), formula, {}, bound))

    def test_the_order_of_the_conditions(self):
        for error, field, text in REFUSED:
            # An open formula that the book does not fit, or that cannot be compiled.
            if error is Oversized:
                self.refused(Misused, "open", decide, sample_book(), parse_formula(text))
            else:
                self.refused(error, field, decide, sample_book(), parse_formula(text))
            closed = f"all a, b, c, d, e, f, g, x, y: ({text})"
            self.refused(error, field, decide, sample_book(), parse_formula(closed))

    def test_open_formulas(self):
        for text in ["x >= 0", "some y: x >= y", "pow(y) | (some y: pow(y))", "nothing(x)", "all x: first(x, y)"]:
            self.refused(Misused, "open", decide, sample_book(), parse_formula(text))


class Validity(RefusalTests):
    def test_small_ones(self):
        for text, valid, met in [
            ("1 = 1", True, True), ("1 = 2", False, False), ("x = x", True, True), ("x < x", False, False),
            ("x < y", False, True), ("x < y | y <= x", True, True), ("pow(x) & M[x] = 0", False, False),
            ("pow(x) => M[x] != 0", True, True), ("x + y = y + x", True, True), ("x > 200 & pow(x)", False, True),
            ("K[x] = 7", True, True), ("K[x] = 5", False, False), ("some y: x < y", True, True),
            ("all y: x < y", False, False), ("all y: x <= y", False, True), ("nothing(x)", False, False),
        ]:
            self.assertIs(is_valid(sample_book(), parse_formula(text)), valid)
            self.assertIs(can_be_met(sample_book(), parse_formula(text)), met)

    def test_the_samples(self):
        for formula, _ in samples():
            machine = compile_formula(sample_book(), formula)[1]
            self.assertIs(is_valid(sample_book(), formula), set(machine.accepting) == {True})
            self.assertIs(can_be_met(sample_book(), formula), set(machine.accepting) != {False})
            self.assertIs(is_valid(sample_book(), ("not", formula)), not can_be_met(sample_book(), formula))
            closed = formula
            for name in free_names(formula):
                closed = ("all", name, closed)
            self.assertIs(decide(sample_book(), closed), is_valid(sample_book(), formula))

    def test_what_compile_formula_refuses(self):
        for error, field, text in REFUSED:
            self.refused(error, field, is_valid, sample_book(), parse_formula(text))
            self.refused(error, field, can_be_met, sample_book(), parse_formula(text))


class Sameness(RefusalTests):
    def check(self, one, two, wanted):
        one, two = parse_formula(one), parse_formula(two)
        found = difference(sample_book(), one, two)
        self.assertEqual((found, type(found)), (wanted, type(wanted)))
        self.assertEqual(difference(sample_book(), two, one), wanted)
        self.assertIs(are_same(sample_book(), one, two), wanted is None)
        self.assertIs(are_same(sample_book(), two, one), wanted is None)

    def test_small_ones(self):
        self.check("x < y", "~y <= x", None)
        self.check("even(x)", "some q: x = q + q", None)
        self.check("x < y", "x <= y", (0, 0))
        self.check("pow(x)", "pow(x) & x < 100", (128,))
        self.check("pow(x)", "T[x] = 1", (7,))
        self.check("x < 5", "x < y", (0, 0))
        self.check("x < 5", "y < 5", (0, 5))
        self.check("b = 1", "a = 1", (0, 1))
        self.check("x > y & pow(y)", "x < x", (2, 1))
        self.check("1 = 1", "2 = 2", None)
        self.check("1 = 1", "1 = 2", ())
        self.check("1 = 1", "x = x", None)
        self.check("1 = 2", "x = 6", (6,))
        self.check("nothing(x)", "nothing(y)", None)
        self.check("first(x, y)", "pow(x)", None)
        self.check("x = 1 => y = 2", "y = 2 | x != 1", None)

    def test_by_trying_numbers(self):
        formulas = [formula for formula, bound in samples() if bound == 0 and len(free_names(formula)) in (1, 2)]
        book = sample_book()
        for one, two in itertools.combinations(formulas, 2):
            names = free_names(("iff", one, two))
            if len(names) != 2:
                continue
            wanted = next((numbers for numbers in itertools.product(range(6), range(20)) if holds(
                book, ("not", ("iff", one, two)), dict(zip(names, numbers)), 0,
            )), None)
            found = difference(book, one, two)
            self.assertIs(are_same(book, one, two), found is None)
            if wanted is None:
                self.assertTrue(found is None or found[0] >= 6)
            else:
                self.assertLessEqual(found, wanted)
                self.assertIs(holds(book, ("iff", one, two), dict(zip(names, found)), 0), False)

    def test_what_compile_formula_refuses(self):
        for function in (are_same, difference):
            for error, field, text in REFUSED:
                formula = parse_formula(text)
                self.refused(error, field, function, sample_book(), formula, parse_formula("1 = 1"))
                self.refused(error, field, function, sample_book(), parse_formula("1 = 1"), formula)
            one, two = parse_formula("a = b & c = d"), parse_formula("e = f & g = a")
            self.refused(Oversized, "width", function, sample_book(), one, two)
            self.refused(Unknown, "g", function, sample_book(), parse_formula(LARGE), parse_formula("g(x)"))
            self.refused(Oversized, "states", function, sample_book(), parse_formula(LARGE), parse_formula(WIDE))
            self.refused(Oversized, "width", function, sample_book(), parse_formula(WIDE), parse_formula(LARGE))

    def test_six_names_of_both(self):
        self.check("a = b & c = d", "a = b & c = d & e + f >= f", None)


class Arguments(RefusalTests):
    def test_they_stay_as_they_were(self):
        book = sample_book()
        formula = parse_formula("all x: even(x) => T[x] = 1")
        decide(book, formula)
        is_valid(book, formula)
        can_be_met(book, formula)
        difference(book, formula, formula)
        self.assertEqual(formula, parse_formula("all x: even(x) => T[x] = 1"))
        self.assertEqual((book.definitions(), book.words()), (sample_book().definitions(), sample_book().words()))
        self.assertIs(decide(Book(), parse_formula("1 = 1")), True)


if __name__ == "__main__":
    unittest.main()
