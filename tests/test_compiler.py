"""Tests of points 30.1, 30.2, 30.3 and 30.4."""

import copy
import unittest

from digitwise.book import Book
from digitwise.compiler import Compiler, compile_formula
from digitwise.errors import Misused, Oversized, Unknown
from digitwise.formulas import free_names
from digitwise.least import classes, least
from digitwise.linear import at_most, equation
from digitwise.machine import Machine, all_or_none
from digitwise.parser import parse_formula
from digitwise.products import complement
from digitwise.project import some
from digitwise.told import Told, powers
from digitwise.tracks import spread
from tests.machines import is_numbered
from tests.meaning import sample_book, samples, tried
from tests.refusals import RefusalTests

# Pairs of tables of words, of which the sums of their numbers have exactly so many sets of states.
SUMS = {
    400: (
        ([0, 0, 1, 0, 1], [[1, 4], [0, 1], [4, 2], [3, 4], [4, 0]]),
        ([0, 0, 1, 1, 0, 0, 0], [[0, 1], [6, 5], [3, 6], [2, 1], [6, 2], [5, 4], [4, 4]]),
    ),
    401: (
        ([0, 1, 1, 1, 0, 1, 1, 1], [[0, 2], [2, 0], [3, 5], [7, 1], [0, 7], [1, 2], [3, 5], [6, 5]]),
        ([0, 0, 1, 0, 0], [[3, 2], [3, 1], [2, 0], [1, 0], [0, 1]]),
    ),
}
WIDE = "a + b + c + d + e + f + g = 1"
LARGE = "201 * x + 199 * y <= 0"


def parts_of_ones(size, tail=0):
    """Return a word with output 1 at the numbers whose number of digits 1 is a multiple, behind so many first ones."""
    length = tail + size
    table = [[state, state + 1 if state + 1 < length else tail] for state in range(length)]
    return Told([1 if state <= tail else 0 for state in range(length)], table)


def book_of_words(**words):
    book = Book()
    for word, told in words.items():
        book.tell(word, told)
    return book


class CompilerTests(RefusalTests):
    def refused_text(self, error, field, text, book=None):
        book = sample_book() if book is None else book
        self.refused(error, field, compile_formula, book, parse_formula(text))
        self.refused(error, field, Compiler(book).compiled, parse_formula(text))

    def shape(self, text, book=None):
        return compile_formula(sample_book() if book is None else book, parse_formula(text))[1].shape()


class Compiling(CompilerTests):
    def test_the_example(self):
        names, machine = compile_formula(Book(), parse_formula("some y: x = 2 * y"))
        self.assertEqual(names, ("x",))
        self.assertEqual(machine.shape(), (1, ((1, 2), (1, 1), (2, 2)), (True, True, False)))

    def test_the_kinds_of_values(self):
        compiler = Compiler(sample_book())
        for found in [
            compile_formula(sample_book(), parse_formula("x < y")), compiler.compiled(parse_formula("x < y")),
            compiler.definition("less"),
        ]:
            self.assertEqual([type(each) for each in [found, *found]], [tuple, tuple, Machine])
            self.assertEqual(found[0], ("x", "y"))

    def test_the_samples_by_trying_numbers(self):
        book = sample_book()
        for formula, bound in samples():
            names, machine = compile_formula(book, formula)
            self.assertEqual(names, tuple(free_names(formula)))
            self.assertEqual(machine.width, len(names))
            for numbers, wanted in tried(book, formula, bound):
                with self.subTest(formula=formula, numbers=numbers):
                    self.assertIs(machine.takes(numbers), wanted)

    def test_the_samples_hold_for_some_numbers_and_not_for_others(self):
        # Otherwise trying numbers would not tell much.
        found = [{wanted for _, wanted in tried(sample_book(), formula, bound)} for formula, bound in samples()]
        self.assertGreater(found.count({True, False}), len(found) // 2)

    def test_the_machines_are_least(self):
        for formula, _ in samples():
            machine = compile_formula(sample_book(), formula)[1]
            self.assertTrue(is_numbered(machine))
            self.assertEqual(classes(machine), list(range(machine.size)))
            self.assertEqual(least(machine).shape(), machine.shape())

    def test_the_samples_for_large_numbers(self):
        book = sample_book()
        for text, taken, others in [
            ("some y: x = 3 * y + 1", [(10 ** 30,), (3 * 10 ** 40 + 1,)], [(3 * 10 ** 30,), (3 * 10 ** 40 + 2,)]),
            ("x < y & pow(y)", [(2 ** 90 - 1, 2 ** 90)], [(2 ** 90, 2 ** 90), (1, 2 ** 90 + 1)]),
            ("some y, z: x = 3 * y + 5 * z", [(8,), (10 ** 20,)], [(7,), (4,), (1,), (2,)]),
            ("some y: x + y = z", [(10 ** 25, 10 ** 25), (3, 10 ** 25)], [(10 ** 25 + 1, 10 ** 25)]),
            ("all y: y < x => some z: z > y & pow(z)", [(10 ** 25,)], []),
            ("some y: y > x & pow(y) & y < 2 * x", [(2 ** 70 + 1,)], [(2 ** 70,)]),
        ]:
            machine = compile_formula(book, parse_formula(text))[1]
            for numbers in taken:
                self.assertIs(machine.takes(numbers), True)
            for numbers in others:
                self.assertIs(machine.takes(numbers), False)

    def test_formulas_that_hold_always_or_never(self):
        for text in ["all x: some y: x = 2 * y | x = 2 * y + 1", "x = x", "some y: x < y", "all x: x + y >= y"]:
            width = len(free_names(parse_formula(text)))
            self.assertEqual(self.shape(text), all_or_none(width, True).shape())
        for text in ["some x: all y: y <= x", "x < x", "some y: 2 * y = 2 * x + 1", "all x: x != y"]:
            width = len(free_names(parse_formula(text)))
            self.assertEqual(self.shape(text), all_or_none(width, False).shape())

    def test_the_machine_of_each_kind_of_node(self):
        self.assertEqual(self.shape("x = 2 * y"), least(equation([1, -2], 0)[0]).shape())
        self.assertEqual(self.shape("z - x <= 3"), least(at_most([-1, 1], -3)[0]).shape())
        self.assertEqual(self.shape("3 = 3"), all_or_none(0, True).shape())
        self.assertEqual(self.shape("4 <= 3"), all_or_none(0, False).shape())
        self.assertEqual(self.shape("pow(q)"), powers().shape())
        told = sample_book().told("M")
        for output in range(4):
            self.assertEqual(self.shape(f"M[q] = {output}"), least(told.machine(output)).shape())
        self.assertEqual(self.shape("~M[q] = 1"), least(complement(told.machine(1))).shape())
        self.assertEqual(self.shape("some y: x = 3 * y"), least(some(equation([1, -3], 0)[0], 1)).shape())
        inner = least(complement(least(at_most([1, -1], 0)[0])))
        self.assertEqual(self.shape("all y: y >= x"), least(complement(some(inner, 1))).shape())
        self.assertEqual(self.shape("less(b, a)"), self.shape("b < a"))
        self.assertEqual(self.shape("less(b, a)"), least(spread(at_most([1, -1], 1)[0], (1, 0), 2)).shape())

    def test_words_have_only_states_that_can_be_reached(self):
        self.assertEqual(self.shape("P[x] = 9"), all_or_none(1, False).shape())
        self.assertEqual(self.shape("P[x] = 8"), all_or_none(1, False).shape())
        self.assertEqual(self.shape("K[x] = 7"), all_or_none(1, True).shape())

    def test_bound_names_that_are_not_free_in_their_part(self):
        for quantifier in ("some", "all"):
            self.assertEqual(self.shape(f"{quantifier} y: x = 3"), self.shape("x = 3"))
            self.assertEqual(self.shape(f"{quantifier} y: 1 = 2"), self.shape("1 = 2"))
            self.assertEqual(self.shape(f"{quantifier} y: pow(x) & T[z] = 1"), self.shape("pow(x) & T[z] = 1"))
            self.assertEqual(self.shape(f"some x: {quantifier} x: x < y"), self.shape(f"{quantifier} x: x < y"))
        self.assertEqual(compile_formula(Book(), parse_formula("some y: x = 3"))[0], ("x",))

    def test_equal_formulas_in_different_places(self):
        self.assertEqual(self.shape("x < y & ~x < y"), all_or_none(2, False).shape())
        self.assertEqual(self.shape("(some x: x < y) & (some x: x < y) & x < y"), self.shape("x < y"))
        self.assertEqual(self.shape("even(x) & even(y) & even(x)"), self.shape("even(x) & even(y)"))

    def test_a_name_that_is_free_and_bound(self):
        self.assertEqual(self.shape("x < y & (some x: y = 2 * x)"), self.shape("even(y) & x < y"))

    def test_the_tracks_are_in_the_order_of_the_names(self):
        names, machine = compile_formula(Book(), parse_formula("z = 2 * b & (a = 5 | z = a)"))
        self.assertEqual(names, ("a", "b", "z"))
        self.assertEqual([machine.takes(each) for each in [(5, 7, 14), (5, 14, 7), (14, 7, 14)]], [True, False, True])
        names, machine = compile_formula(Book(), parse_formula("some m: z = a + m & m > 3"))
        self.assertEqual((names, machine.takes((1, 5)), machine.takes((5, 1))), (("a", "z"), True, False))


class Calls(CompilerTests):
    def test_the_places_of_the_names(self):
        self.assertEqual(self.shape("less(x, y)"), self.shape("x < y"))
        self.assertEqual(self.shape("less(y, x)"), self.shape("y < x"))
        self.assertEqual(self.shape("swapped(x, y)"), self.shape("y < x"))
        self.assertEqual(self.shape("three(q, r, p)"), self.shape("r + 2 * p <= 3 * q + 1"))

    def test_equal_names(self):
        names, machine = compile_formula(sample_book(), parse_formula("less(x, x)"))
        self.assertEqual((names, machine.shape()), (("x",), all_or_none(1, False).shape()))
        self.assertEqual(self.shape("three(a, a, b)"), self.shape("2 * b <= 2 * a + 1"))
        self.assertEqual(self.shape("some2(x, x)"), all_or_none(1, True).shape())

    def test_names_whose_numbers_do_not_matter(self):
        names, machine = compile_formula(sample_book(), parse_formula("first(y, x)"))
        self.assertEqual((names, machine.shape()), (("x", "y"), spread(powers(), (1,), 2).shape()))
        names, machine = compile_formula(sample_book(), parse_formula("nothing(y)"))
        self.assertEqual((names, machine.shape()), (("y",), all_or_none(1, False).shape()))
        names, machine = compile_formula(sample_book(), parse_formula("some x: first(y, x)"))
        self.assertEqual((names, machine.shape()), (("y",), powers().shape()))

    def test_bound_names_of_the_definition(self):
        # The definitions bind y and x themselves.
        self.assertEqual(self.shape("even(y)"), self.shape("some q: y = 2 * q"))
        self.assertEqual(self.shape("some2(x, y)"), self.shape("some q: x = y + 2 * q"))

    def test_six_names_of_which_not_all_matter(self):
        book = sample_book()
        book.define("many", ("a", "b", "c", "d", "e", "f", "g"), ("pow", "c"))
        names, machine = compile_formula(book, ("call", "many", tuple("uvwxyzu")))
        self.assertEqual((names, machine.shape()), (tuple("uvwxyz"), spread(powers(), (2,), 6).shape()))
        self.refused(Oversized, "width", compile_formula, book, ("call", "many", tuple("tuvwxyz")))

    def test_the_definition(self):
        compiler = Compiler(sample_book())
        self.assertEqual(compiler.definition("even")[0], ("x",))
        self.assertEqual(compiler.definition("swapped")[0], ("x", "y"))
        self.assertEqual(compiler.definition("first")[0], ("x",))
        self.assertEqual(compiler.definition("nothing")[0], ())
        for name in sample_book().definitions():
            names, machine = compiler.definition(name)
            wanted = compile_formula(sample_book(), sample_book().formula(name))
            self.assertEqual((names, machine.shape()), (wanted[0], wanted[1].shape()))
        for name in ["", "evens", "T", "pow"]:
            self.refused(Unknown, name, compiler.definition, name)

    def test_definitions_that_are_added_later(self):
        book = Book()
        compiler = Compiler(book)
        self.refused(Unknown, "even", compiler.compiled, parse_formula("even(x)"))
        self.refused(Unknown, "even", compiler.definition, "even")
        book.define("even", ("x",), parse_formula("some y: x = 2 * y"))
        self.assertEqual(compiler.compiled(parse_formula("even(x)"))[1].size, 3)
        self.refused(Unknown, "T", compiler.compiled, parse_formula("T[x] = 1"))
        book.tell("T", parts_of_ones(2))
        book.define("last", ("a",), parse_formula("even(a) & T[a] = 1"))
        found = compiler.compiled(parse_formula("last(a)"))
        self.assertEqual(found[1].shape(), compile_formula(book, parse_formula("even(a) & T[a] = 1"))[1].shape())
        self.assertEqual(compiler.definition("last")[1].shape(), found[1].shape())

    def test_the_machine_of_each_definition_is_made_once(self):
        # Otherwise the last of these would take more machines than can be made.
        book = Book()
        book.define("d0", ("x", "y"), parse_formula("x < 2 * y"))
        for index in range(1, 90):
            book.define(f"d{index}", ("x", "y"), parse_formula(f"d{index - 1}(x, y) & d{index - 1}(x, y)"))
        self.assertEqual(self.shape("d89(x, y)", book), self.shape("x < 2 * y"))
        compiler = Compiler(book)
        for _ in range(3):
            self.assertEqual(compiler.definition("d89")[1].shape(), self.shape("x < 2 * y"))

    def test_long_chains_of_definitions(self):
        book = Book()
        book.define("d0", ("x",), parse_formula("pow(x)"))
        for index in range(1, 2000):
            book.define(f"d{index}", ("x",), ("not", ("call", f"d{index - 1}", ("x",))))
        self.assertEqual(compile_formula(book, ("call", "d1999", ("z",)))[1].shape(), complement(powers()).shape())
        self.assertEqual(Compiler(book).definition("d1998")[1].shape(), powers().shape())


class Refusals(CompilerTests):
    def test_what_check_formula_refuses(self):
        for error, field, text in [
            (Unknown, "U", "U[x] = 1"), (Unknown, "evens", "evens(x)"), (Misused, "count", "even(x, y)"),
            (Misused, "count", "less(x)"), (Unknown, "U", "pow(x) & U[x] = 1 & evens(x)"),
            (Unknown, "evens", "some x: evens(x, y) | U[x] = 1"),
        ]:
            self.refused_text(error, field, text)

    def test_that_comes_first(self):
        self.refused_text(Unknown, "U", f"{WIDE} & U[x] = 1")
        self.refused_text(Unknown, "evens", f"{LARGE} & evens(x)")
        self.refused_text(Misused, "count", f"{LARGE} & {WIDE} & even(x, y)")

    def test_six_free_names_and_one_more(self):
        self.assertEqual(compile_formula(Book(), parse_formula("a + b + c + d + e + f = 1"))[1].width, 6)
        self.assertEqual(compile_formula(Book(), parse_formula("a = b & c = d & e = f"))[1].width, 6)
        self.refused_text(Oversized, "width", WIDE)
        self.refused_text(Oversized, "width", "a = b & c = d & (e = f | g = 1)")
        self.refused_text(Oversized, "width", "between(a, b, c) => between(d, e, f) & pow(g)")

    def test_a_part_with_more_names_than_the_formula(self):
        self.refused_text(Oversized, "width", f"some g: {WIDE}")
        self.refused_text(Oversized, "width", "some g: pow(g) & a = b & c = d & e = f")
        self.assertEqual(self.shape("(some g: pow(g) & a = b & c = d) & e = f"), self.shape("a = b & c = d & e = f"))

    def test_400_states_of_a_comparison_and_one_more(self):
        self.assertEqual(self.shape("200 * x + 199 * y <= 0"), self.shape("x = 0 & y = 0"))
        self.assertEqual(self.shape("201 * x = 199 * y"), least(equation([201, -199], 0)[0]).shape())
        self.refused_text(Oversized, "states", LARGE)
        self.refused_text(Oversized, "states", "201 * x = 200 * y")

    def test_400_states_of_a_product_and_one_more(self):
        book = book_of_words(A=parts_of_ones(16), B=parts_of_ones(25), C=parts_of_ones(16, 1))
        for joint in ["&", "|", "=>", "<=>"]:
            machine = compile_formula(book, parse_formula(f"A[x] = 1 {joint} B[x] = 1"))[1]
            self.assertEqual(machine.size, 400)
            self.refused_text(Oversized, "states", f"C[x] = 1 {joint} B[x] = 1", book)
        # The product is asked, not the least machine.
        self.refused_text(Oversized, "states", "C[x] = 1 & B[x] = 1 & x = 0", book)
        self.assertEqual(self.shape("C[x] = 1 & (B[x] = 1 & x = 0)", book), self.shape("x = 0"))

    def test_400_states_of_a_projection_and_one_more(self):
        for size, (one, two) in SUMS.items():
            book = book_of_words(A=Told(*one), B=Told(*two))
            text = "(some z: x = y + z & A[y] = 1 & B[z] = 1)"
            inner = compile_formula(book, parse_formula(text))[1]
            if size == 400:
                self.assertEqual(some(inner, 1).size, 400)
                self.assertEqual(self.shape(f"some y: {text}", book), least(some(inner, 1)).shape())
            else:
                self.refused_text(Oversized, "states", f"some y: {text}", book)
            text = f"~{text}"
            if size == 400:
                self.assertEqual(self.shape(f"all y: {text}", book), least(complement(some(inner, 1))).shape())
            else:
                self.refused_text(Oversized, "states", f"all y: {text}", book)

    def test_parts_are_made_first_and_from_the_left(self):
        wide = "a = b & c = d & e = f"
        self.refused_text(Oversized, "width", f"{WIDE} & {LARGE}")
        self.refused_text(Oversized, "states", f"{LARGE} & {WIDE}")
        self.refused_text(Oversized, "states", f"{wide} & {LARGE}")
        self.refused_text(Oversized, "states", f"{LARGE} & ({wide})")
        self.refused_text(Oversized, "states", f"pow(x) & (~({LARGE}) | {WIDE})")
        self.refused_text(Oversized, "width", f"(all a: {WIDE}) & (some x: {LARGE})")
        self.refused_text(Oversized, "states", f"(some x: {LARGE}) & (all a: {WIDE})")

    def test_the_width_is_asked_before_the_machine_is_made(self):
        self.refused_text(Oversized, "width", "255 * a + 254 * b + 253 * c + 252 * d + e + f + g = 1")

    def test_definitions_that_are_refused(self):
        book = sample_book()
        book.define("large", ("x", "y"), parse_formula(LARGE))
        book.define("wide", tuple("abcdefg"), parse_formula(WIDE))
        book.define("calls", ("x", "y"), parse_formula("even(x) & large(x, y)"))
        compiler = Compiler(book)
        # Again, because what has been refused once must be refused each time.
        for _ in range(2):
            self.refused(Oversized, "states", compiler.definition, "large")
            self.refused(Oversized, "states", compiler.definition, "calls")
            self.refused(Oversized, "width", compiler.definition, "wide")
            self.refused(Oversized, "states", compiler.compiled, parse_formula("large(x, x)"))
            self.refused(Oversized, "width", compiler.compiled, parse_formula("wide(a, a, a, a, a, a, a)"))
            wide = "wide(a, b, c, d, e, f, g)"
            self.refused(Oversized, "states", compiler.compiled, parse_formula(f"calls(x, y) & {wide}"))
            self.refused(Oversized, "width", compiler.compiled, parse_formula(f"{wide} & calls(x, y)"))
            self.assertEqual(compiler.compiled(parse_formula("even(x)"))[1].size, 3)


class Independence(CompilerTests):
    def test_what_was_compiled_before(self):
        compiler = Compiler(sample_book())
        shapes = [compile_formula(sample_book(), formula)[1].shape() for formula, _ in samples()]
        for order in [list(range(len(shapes))), list(range(len(shapes) - 1, -1, -1))]:
            for place in order:
                self.assertEqual(compiler.compiled(samples()[place][0])[1].shape(), shapes[place])

    def test_what_is_returned_may_be_changed(self):
        compiler = Compiler(sample_book())
        for _ in range(2):
            for names, machine in [
                compiler.definition("even"), compiler.compiled(parse_formula("even(x)")),
                compiler.compiled(sample_book().formula("even")),
            ]:
                self.assertEqual((names, machine.shape()), (("x",), self.shape("even(x)")))
                machine.table[0][0] = 2
                machine.accepting[:] = [False] * machine.size
        self.assertEqual(compiler.compiled(parse_formula("odd(x)"))[1].shape(), self.shape("~even(x)"))

    def test_the_book_and_the_formulas_stay_as_they_were(self):
        book = sample_book()
        told = copy.deepcopy((book.told("M").outputs, book.told("M").table))
        formulas = [book.formula(name) for name in book.definitions()]
        for formula, _ in samples():
            before = copy.deepcopy(formula)
            compile_formula(book, formula)
            self.assertEqual(formula, before)
        self.assertEqual((book.told("M").outputs, book.told("M").table), told)
        self.assertEqual([book.formula(name) for name in book.definitions()], formulas)
        self.assertEqual((book.definitions(), book.words()), (sample_book().definitions(), sample_book().words()))

    def test_the_book_is_used_as_it_is(self):
        book = sample_book()
        compiler = Compiler(book)
        book.define("new", ("x",), parse_formula("x = 7"))
        self.assertIs(compiler.compiled(parse_formula("new(q)"))[1].takes((7,)), True)


if __name__ == "__main__":
    unittest.main()
