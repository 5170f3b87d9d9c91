"""Tests of points 6.1 and 6.2."""

import unittest

from digitwise.book import Book, check_formula
from digitwise.errors import Clashing, Misused, Unknown
from digitwise.told import Told

CLOSED = ("eq", ((), 0))
EVEN = ("some", "y", ("eq", ((("x", 1), ("y", -2)), 0)))
POWER = ("pow", "x")
LESS = ("le", ((("x", 1), ("y", -1)), 1))


def parity():
    return Told([0, 1], [[0, 1], [1, 0]])


def filled():
    """Return a book with two definitions and a word."""
    book = Book()
    book.define("even", ("x",), EVEN)
    book.define("less", ("x", "y"), LESS)
    book.tell("P", parity())
    return book


class BookTests(unittest.TestCase):
    def refused(self, error, field, function, *arguments):
        with self.assertRaises(error) as caught:
            function(*arguments)
        self.assertIs(type(caught.exception), error)
        self.assertEqual(list(vars(caught.exception).values()), [field])

    def clashing(self, name, function, *arguments):
        self.refused(Clashing, name, function, *arguments)

    def unknown(self, name, function, *arguments):
        self.refused(Unknown, name, function, *arguments)

    def misused(self, why, function, *arguments):
        self.refused(Misused, why, function, *arguments)


class Entries(BookTests):
    def test_an_empty_book(self):
        book = Book()
        self.assertEqual((book.definitions(), book.words()), ([], []))
        self.assertIs(book.has_definition("even"), False)
        self.assertIs(book.has_word("P"), False)
        self.unknown("even", book.parameters, "even")
        self.unknown("even", book.formula, "even")
        self.unknown("P", book.told, "P")

    def test_definitions(self):
        book = filled()
        self.assertEqual(book.parameters("even"), ("x",))
        self.assertEqual(book.formula("even"), EVEN)
        self.assertEqual(book.parameters("less"), ("x", "y"))
        self.assertEqual(book.formula("less"), LESS)
        self.assertIs(book.has_definition("even"), True)
        self.assertIs(book.has_definition("odd"), False)

    def test_words(self):
        book = filled()
        self.assertEqual(book.told("P").outputs, [0, 1])
        self.assertEqual(book.told("P").output(7), 1)
        self.assertIs(book.has_word("P"), True)
        self.assertIs(book.has_word("Q"), False)

    def test_what_is_not_there(self):
        book = filled()
        for name in ["odd", "evens", "x"]:
            self.unknown(name, book.parameters, name)
            self.unknown(name, book.formula, name)
        self.unknown("Q", book.told, "Q")

    def test_definitions_and_words_are_apart(self):
        book = filled()
        self.assertIs(book.has_word("even"), False)
        self.assertIs(book.has_definition("P"), False)
        self.unknown("P", book.parameters, "P")
        self.unknown("P", book.formula, "P")
        self.unknown("even", book.told, "even")

    def test_the_order_of_adding(self):
        book = Book()
        for name in ["z", "b", "y", "a"]:
            book.define(name, (), CLOSED)
        for word in ["Z", "B", "Y", "A"]:
            book.tell(word, parity())
        self.assertEqual(book.definitions(), ["z", "b", "y", "a"])
        self.assertEqual(book.words(), ["Z", "B", "Y", "A"])

    def test_the_lists_are_new_ones(self):
        book = filled()
        book.definitions().append("odd")
        book.words().clear()
        self.assertEqual((book.definitions(), book.words()), (["even", "less"], ["P"]))

    def test_books_are_apart(self):
        filled()
        self.assertEqual(Book().definitions(), [])
        self.assertEqual(Book().words(), [])


class Define(BookTests):
    def test_parameters_that_are_not_free_in_the_formula(self):
        book = Book()
        book.define("f", ("z", "x", "a"), POWER)
        self.assertEqual(book.parameters("f"), ("z", "x", "a"))

    def test_no_parameters(self):
        book = Book()
        book.define("f", (), CLOSED)
        self.assertEqual((book.parameters("f"), book.formula("f")), ((), CLOSED))

    def test_a_name_that_there_is(self):
        book = filled()
        self.clashing("even", book.define, "even", ("x",), POWER)
        self.assertEqual(book.formula("even"), EVEN)
        self.assertEqual(book.definitions(), ["even", "less"])

    def test_a_definition_may_have_the_name_of_its_parameter(self):
        book = Book()
        book.define("x", ("x",), POWER)
        self.assertEqual(book.parameters("x"), ("x",))

    def test_parameters_that_occur_twice(self):
        cases = [
            (("x", "y", "y", "x"), "y"), (("x", "x"), "x"), (("x", "y", "x", "y"), "x"),
            (("a", "b", "c", "b", "a"), "b"), (("z", "a", "z"), "z"), (("a", "b", "b", "b"), "b"),
        ]
        for parameters, name in cases:
            book = Book()
            self.clashing(name, book.define, "f", parameters, CLOSED)
            self.assertIs(book.has_definition("f"), False)

    def test_free_names_that_are_no_parameters(self):
        book = Book()
        self.unknown("x", book.define, "f", (), POWER)
        self.unknown("x", book.define, "f", ("y",), LESS)
        self.unknown("y", book.define, "f", ("x",), LESS)
        self.unknown("x", book.define, "f", (), LESS)
        self.unknown("x", book.define, "f", ("z",), ("and", ("pow", "y"), POWER))
        self.unknown("x10", book.define, "f", ("z",), ("and", ("pow", "x2"), ("pow", "x10")))
        self.assertEqual(book.definitions(), [])

    def test_bound_names_are_not_free(self):
        book = Book()
        book.define("f", (), ("all", "x", POWER))
        book.define("g", ("y",), ("and", ("all", "x", POWER), ("pow", "y")))
        self.unknown("x", book.define, "h", (), ("or", ("all", "x", POWER), POWER))
        self.assertEqual(book.definitions(), ["f", "g"])

    def test_definitions_that_were_added_before_may_be_called(self):
        book = filled()
        book.define("both", ("a", "b"), ("and", ("call", "even", ("a",)), ("call", "less", ("a", "b"))))
        book.define("again", ("a",), ("call", "both", ("a", "a")))
        self.assertEqual(book.definitions(), ["even", "less", "both", "again"])

    def test_other_definitions_may_not(self):
        book = filled()
        self.unknown("f", book.define, "f", ("x",), ("call", "f", ("x",)))
        self.unknown("later", book.define, "f", ("x",), ("some", "y", ("call", "later", ("x",))))
        self.assertIs(book.has_definition("f"), False)

    def test_words_and_counts_are_asked(self):
        book = filled()
        self.unknown("Q", book.define, "f", ("x",), ("word", "Q", "x", 0))
        self.misused("count", book.define, "f", ("x",), ("call", "less", ("x",)))
        self.assertIs(book.has_definition("f"), False)
        book.define("f", ("x",), ("word", "P", "x", 0))

    def test_the_order_of_the_conditions(self):
        book = filled()
        wrong = ("and", ("pow", "a"), ("and", ("word", "Q", "x", 0), ("call", "g", ("x",))))
        self.clashing("even", book.define, "even", ("y", "y"), wrong)
        self.clashing("y", book.define, "f", ("y", "y"), wrong)
        self.unknown("Q", book.define, "f", ("y",), wrong)
        book.tell("Q", parity())
        self.unknown("g", book.define, "f", ("y",), wrong)
        book.define("g", ("x", "y"), LESS)
        self.misused("count", book.define, "f", ("y",), wrong)
        right = ("and", ("pow", "a"), ("call", "g", ("x", "x")))
        self.unknown("a", book.define, "f", ("y",), right)
        self.unknown("x", book.define, "f", ("a",), right)
        book.define("f", ("x", "a"), right)
        self.assertEqual(book.definitions(), ["even", "less", "g", "f"])

    def test_later_changes_of_what_was_handed_in_change_nothing(self):
        book = Book()
        parameters = ["x"]
        book.define("f", parameters, POWER)
        parameters.append("y")
        self.assertEqual(book.parameters("f"), ("x",))


class Tell(BookTests):
    def test_a_word_that_there_is(self):
        book = filled()
        other = Told([5], [[0, 0]])
        self.clashing("P", book.tell, "P", other)
        self.assertEqual(book.told("P").outputs, [0, 1])
        book.tell("Q", other)
        self.assertEqual(book.told("Q").outputs, [5])
        self.assertEqual(book.words(), ["P", "Q"])

    def test_the_word_is_not_changed(self):
        book = Book()
        told = parity()
        book.tell("P", told)
        self.assertEqual((told.outputs, told.table), ([0, 1], [[0, 1], [1, 0]]))
        self.assertIs(book.told("P"), told)


class CheckFormula(BookTests):
    def test_formulas_that_fit(self):
        book = filled()
        for formula in [
            CLOSED, POWER, EVEN, LESS, ("word", "P", "x", 9), ("call", "even", ("a",)), ("call", "less", ("a", "a")),
            ("iff", ("not", ("word", "P", "x", 1)), ("all", "x", ("call", "even", ("x",)))),
        ]:
            self.assertIsNone(check_formula(book, formula))

    def test_names_do_not_matter(self):
        self.assertIsNone(check_formula(Book(), ("some", "x", LESS)))

    def test_words_that_there_are_not(self):
        self.unknown("Q", check_formula, filled(), ("word", "Q", "x", 0))
        self.unknown("P", check_formula, Book(), ("word", "P", "x", 0))

    def test_definitions_that_there_are_not(self):
        self.unknown("odd", check_formula, filled(), ("call", "odd", ("x",)))
        self.unknown("even", check_formula, Book(), ("call", "even", ("x",)))

    def test_counts(self):
        book = filled()
        book.define("f", (), CLOSED)
        for name, names in [("even", ("x", "y")), ("less", ("x",)), ("less", ("x", "y", "z")), ("f", ("x",))]:
            self.misused("count", check_formula, book, ("call", name, names))

    def test_a_definition_is_asked_before_the_count(self):
        self.unknown("odd", check_formula, filled(), ("call", "odd", ("x", "y", "z")))

    def test_a_wrong_place_in_each_part(self):
        book = filled()
        for wrong, error, field in [
            (("word", "Q", "x", 0), Unknown, "Q"), (("call", "odd", ("x",)), Unknown, "odd"),
            (("call", "less", ("x",)), Misused, "count"),
        ]:
            for formula in [
                ("not", wrong), ("some", "x", wrong), ("all", "y", wrong), ("not", ("all", "x", ("not", wrong))),
                *[(joint, wrong, POWER) for joint in ["and", "or", "imp", "iff"]],
                *[(joint, POWER, wrong) for joint in ["and", "or", "imp", "iff"]],
            ]:
                self.refused(error, field, check_formula, book, formula)

    def test_the_places_are_asked_from_the_left(self):
        book = filled()
        places = [
            (("word", "Q", "x", 0), Unknown, "Q"), (("call", "odd", ("x",)), Unknown, "odd"),
            (("call", "less", ("x",)), Misused, "count"), (("word", "R", "x", 0), Unknown, "R"),
        ]
        for first, error, field in places:
            for second, _, _ in places:
                for formula in [
                    ("and", first, second), ("or", ("not", ("not", first)), second),
                    ("imp", ("and", POWER, first), second), ("iff", first, ("or", second, second)),
                    ("and", ("some", "x", ("and", first, second)), second), ("and", POWER, ("and", first, second)),
                    ("and", ("call", "even", ("x",)), ("all", "x", ("or", first, second))),
                    ("or", ("and", ("word", "P", "x", 1), ("or", first, second)), second),
                ]:
                    self.refused(error, field, check_formula, book, formula)

    def test_a_book_is_not_changed(self):
        book = filled()
        check_formula(book, EVEN)
        self.unknown("Q", check_formula, book, ("word", "Q", "x", 0))
        self.assertEqual((book.definitions(), book.words()), (["even", "less"], ["P"]))


if __name__ == "__main__":
    unittest.main()
