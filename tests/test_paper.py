"""Tests of points 50.1 and 50.2."""

import copy
import unittest

from digitwise.book import Book
from digitwise.compiler import compile_formula
from digitwise.errors import Misused, Oversized, Unknown
from digitwise.formulas import free_names, show_formula
from digitwise.least import least, least_with_map
from digitwise.linear import at_most, equation
from digitwise.machine import Machine
from digitwise.paper import RULES, claim, paper_of, step_text
from digitwise.parser import parse_formula
from digitwise.products import both_with_pairs, complement
from digitwise.project import ranks, some_with_sets
from digitwise.told import powers
from digitwise.tracks import spread_with_states
from tests.meaning import holds, sample_book, samples
from tests.refusals import RefusalTests


def paper(text):
    return paper_of(sample_book(), parse_formula(text))


def outline(text):
    """Return the list of the rules, the texts of the formulas and the parents of the steps of a formula."""
    return [(step[0], show_formula(step[1]), step[5]) for step in paper(text)]


def step(rule, formula, machine, parents, labels):
    _, table, accepting = machine.shape()
    return (rule, formula, tuple(free_names(formula)), table, accepting, parents, labels)


def machine_of(step):
    return Machine(len(step[2]), step[3], step[4])


class Outlines(unittest.TestCase):
    def test_a_formula_without_parts(self):
        self.assertEqual(outline("x = 2 * y"), [("eq", "x - 2 * y = 0", ())])
        self.assertEqual(outline("x < y"), [("le", "x - y + 1 <= 0", ())])
        self.assertEqual(outline("pow(x)"), [("pow", "pow(x)", ())])
        self.assertEqual(outline("T[x] = 1"), [("word", "T[x] = 1", ())])

    def test_parts_in_order_and_least_steps(self):
        self.assertEqual(outline("some y: x = 2 * y & ~pow(y)"), [
            ("eq", "x - 2 * y = 0", ()),
            ("pow", "pow(y)", ()),
            ("not", "~pow(y)", (1,)),
            ("and", "(x - 2 * y = 0 & ~pow(y))", (0, 2)),
            ("least", "(x - 2 * y = 0 & ~pow(y))", (3,)),
            ("some", "(some y: (x - 2 * y = 0 & ~pow(y)))", (4,)),
            ("least", "(some y: (x - 2 * y = 0 & ~pow(y)))", (5,)),
        ])
        self.assertEqual(outline("~(T[b] = 1 <=> T[a] = 0)"), [
            ("word", "T[b] = 1", ()),
            ("word", "T[a] = 0", ()),
            ("iff", "(T[b] = 1 <=> T[a] = 0)", (0, 1)),
            ("least", "(T[b] = 1 <=> T[a] = 0)", (2,)),
            ("not", "~(T[b] = 1 <=> T[a] = 0)", (3,)),
        ])

    def test_calls(self):
        even = "(some y: x - 2 * y = 0)"
        self.assertEqual(outline("odd(q) & pow(q)"), [
            ("eq", "x - 2 * y = 0", ()),
            ("some", even, (0,)),
            ("least", even, (1,)),
            ("call", "even(y)", (2,)),
            ("not", "~even(y)", (3,)),
            ("call", "odd(q)", (4,)),
            ("pow", "pow(q)", ()),
            ("and", "(odd(q) & pow(q))", (5, 6)),
            ("least", "(odd(q) & pow(q))", (7,)),
        ])

    def test_what_is_used_again(self):
        self.assertEqual(outline("pow(x) | pow(x)"), [
            ("pow", "pow(x)", ()), ("or", "(pow(x) | pow(x))", (0, 0)),
        ])
        both = "(pow(x) & pow(y))"
        self.assertEqual(outline("(pow(x) & pow(y)) <=> ~(pow(x) & pow(y))"), [
            ("pow", "pow(x)", ()), ("pow", "pow(y)", ()), ("and", both, (0, 1)), ("least", both, (2,)),
            ("not", f"~{both}", (3,)), ("iff", f"({both} <=> ~{both})", (3, 4)),
            ("least", f"({both} <=> ~{both})", (5,)),
        ])

    def test_definitions_are_used_again(self):
        self.assertEqual([(rule, parents) for rule, _, parents in outline("even(x) & even(z) & even(x)")], [
            ("eq", ()), ("some", (0,)), ("least", (1,)), ("call", (2,)), ("call", (2,)), ("and", (3, 4)),
            ("least", (5,)),
            ("and", (6, 3)), ("least", (7,)),
        ])
        found = outline("(some y: x = 2 * y) => even(x)")
        # The formula and that of the definition are equal.
        self.assertEqual(found[:4], [
            ("eq", "x - 2 * y = 0", ()), ("some", "(some y: x - 2 * y = 0)", (0,)),
            ("least", "(some y: x - 2 * y = 0)", (1,)), ("call", "even(x)", (2,)),
        ])
        self.assertEqual(found[4][::2], ("imp", (2, 3)))

    def test_definitions_that_call_each_other_many_times(self):
        book = Book()
        book.define("d0", ("x",), parse_formula("pow(x)"))
        for index in range(1, 1500):
            book.define(f"d{index}", ("x",), parse_formula(f"d{index - 1}(x) & d{index - 1}(x)"))
        found = paper_of(book, parse_formula("d1499(z)"))
        self.assertEqual(len(found), 1 + 1499 + 1499 + 1)
        self.assertEqual(found[-1][:3], ("call", ("call", "d1499", ("z",)), ("z",)))


class Steps(unittest.TestCase):
    def test_the_rules(self):
        self.assertEqual(RULES, (
            "eq", "le", "pow", "word", "not", "and", "or", "imp", "iff", "some", "all", "call", "least",
        ))
        self.assertIs(type(RULES), tuple)
        self.assertEqual({each[0] for formula, _ in samples() for each in paper_of(sample_book(), formula)}, set(RULES))

    def test_comparisons(self):
        for text, function, coefficients, constant in [
            ("x = 2 * y", equation, [1, -2], 0), ("3 * b - a = 4", equation, [-1, 3], -4), ("7 = 3", equation, [], 4),
            ("x <= 4", at_most, [1], -4), ("z > y", at_most, [1, -1], 1), ("3 <= 2", at_most, [], 1),
        ]:
            formula = parse_formula(text)
            machine, labels = function(coefficients, constant)
            found = paper(text)
            self.assertEqual(found[0], step(formula[0], formula, machine, (), tuple(labels)))
            self.assert_least(found, machine)

    def assert_least(self, found, machine):
        """Ask for a least step behind a step of this machine at the end, if the machine is not least."""
        smallest, states = least_with_map(machine)
        if smallest.shape() == machine.shape():
            self.assertEqual(machine_of(found[-1]).shape(), machine.shape())
            self.assertNotEqual(found[-1][0], "least")
        else:
            self.assertEqual(found[-1], step("least", found[-2][1], smallest, (len(found) - 2,), tuple(states)))
            self.assertEqual(machine_of(found[-2]).shape(), machine.shape())

    def test_a_least_step_behind_a_comparison(self):
        self.assertEqual([each[0] for each in paper("x = 2 * y")], ["eq"])
        self.assertEqual(paper("7 = 3"), [
            ("eq", ("eq", ((), 4)), (), ((1,), (2,), (3,), (3,)), (False,) * 4, (), (-4, -2, -1, None)),
            ("least", ("eq", ((), 4)), (), ((0,),), (False,), (0,), (0, 0, 0, 0)),
        ])

    def test_powers(self):
        self.assertEqual(paper("pow(q)"), [step("pow", ("pow", "q"), powers(), (), (0, 1, 2))])

    def test_words(self):
        for text in ["T[x] = 1", "M[q] = 2", "P[x] = 2", "P[x] = 9", "K[a] = 7", "K[a] = 3", "M[q] = 8"]:
            formula = parse_formula(text)
            machine, states = spread_with_states(sample_book().told(formula[1]).machine(formula[3]), (0,), 1)
            found = paper(text)
            self.assertEqual(found[0], step("word", formula, machine, (), tuple(states)))
            self.assert_least(found, machine)

    def test_words_have_only_states_that_can_be_reached(self):
        # The told word's states are found in the order 0, 2, 1, and 3 cannot be reached.
        self.assertEqual(paper("P[x] = 3"), [
            ("word", ("word", "P", "x", 3), ("x",), ((1, 2), (1, 2), (2, 2)), (False, False, True), (), (0, 2, 1)),
            ("least", ("word", "P", "x", 3), ("x",), ((0, 1), (1, 1)), (False, True), (0,), (0, 0, 1)),
        ])
        self.assertEqual(paper("P[x] = 9")[0][6], (0, 2, 1))

    def test_not(self):
        found = paper("~M[x] = 1")
        parent = machine_of(found[-2])
        self.assertEqual(found[-1], step("not", found[-1][1], complement(parent), (len(found) - 2,), ()))

    def test_joints(self):
        for joint, name in [("&", "and"), ("|", "or"), ("=>", "imp"), ("<=>", "iff")]:
            for left, right, first, second, width in [
                ("x < y", "pow(y)", (0, 1), (1,), 2), ("pow(y)", "x < y", (1,), (0, 1), 2),
                ("pow(b)", "a = c", (1,), (0, 2), 3),
                ("1 = 1", "x = 3", (), (0,), 1), ("z = x", "y = 2", (0, 2), (1,), 3),
            ]:
                found = paper(f"{left} {joint} {right}")
                at = [place for place, each in enumerate(found) if each[0] == name][0]
                one, two = [machine_of(found[parent]) for parent in found[at][5]]
                one, one_states = spread_with_states(one, first, width)
                two, two_states = spread_with_states(two, second, width)
                machine, pairs = both_with_pairs(one, two, name)
                labels = tuple([(one_states[state], two_states[other]) for state, other in pairs])
                self.assertEqual(found[at], step(name, found[at][1], machine, found[at][5], labels))
                self.assertEqual([found[parent][1] for parent in found[at][5]], list(found[at][1][1:]))
                self.assert_least(found, machine)

    def test_some(self):
        for text, track in [("some y: x = 3 * y", 1), ("some a: x = 3 * a + 1", 0), ("some x: x = 4", 0)]:
            found = paper(text)
            at = [place for place, each in enumerate(found) if each[0] == "some"][0]
            parent = machine_of(found[at - 1])
            machine, sets = some_with_sets(parent, track)
            labels = (tuple(sets), tuple(ranks(parent, track)))
            self.assertEqual(found[at], step("some", parse_formula(text), machine, (at - 1,), labels))
            self.assert_least(found, machine)

    def test_all(self):
        for text, track in [("all y: x <= y", 1), ("all a: x != 3 * a + 1", 0), ("all x: x < 4", 0)]:
            found = paper(text)
            at = [place for place, each in enumerate(found) if each[0] == "all"][0]
            opposite = complement(machine_of(found[at - 1]))
            machine, sets = some_with_sets(opposite, track)
            labels = (tuple(sets), tuple(ranks(opposite, track)))
            self.assertEqual(found[at], step("all", parse_formula(text), complement(machine), (at - 1,), labels))
            self.assert_least(found, complement(machine))

    def test_bound_names_that_are_not_free_in_their_part(self):
        _, own = paper("some y: pow(x)")
        self.assertEqual(own, (
            "some", ("some", "y", ("pow", "x")), ("x",), ((0, 1), (1, 2), (2, 2)), (False, True, False), (0,),
            (((0,), (1,), (2,)), (None, 0, None)),
        ))
        _, own = paper("all y: pow(x)")
        self.assertEqual(own, (
            "all", ("all", "y", ("pow", "x")), ("x",), ((0, 1), (1, 2), (2, 2)), (False, True, False), (0,),
            (((0,), (1,), (2,)), (0, None, 0)),
        ))

    def test_calls(self):
        for text, inner, places, width in [
            ("less(x, y)", ("x", "y"), (0, 1), 2), ("less(y, x)", ("x", "y"), (1, 0), 2),
            ("less(x, x)", ("x", "y"), (0, 0), 1),
            ("first(x, y)", ("x",), (0,), 2), ("first(y, x)", ("x",), (1,), 2), ("nothing(z)", (), (), 1),
            ("swapped(a, b)", ("x", "y"), (1, 0), 2), ("three(q, r, p)", ("a", "b", "c"), (2, 0, 1), 3),
        ]:
            found = paper(text)
            at = [place for place, each in enumerate(found) if each[1] == parse_formula(text)][0]
            parent = found[found[at][5][0]]
            self.assertEqual(parent[1:3], (sample_book().formula(parse_formula(text)[1]), inner))
            machine, states = spread_with_states(machine_of(parent), places, width)
            self.assertEqual(found[at], step("call", parse_formula(text), machine, found[at][5], tuple(states)))
            self.assert_least(found, machine)

    def test_no_parent_has_a_least_step_behind_it(self):
        for formula, _ in samples():
            found = paper_of(sample_book(), formula)
            for place, each in enumerate(found):
                for parent in each[5]:
                    smaller = least(machine_of(found[parent])).shape()
                    self.assertTrue(each[0] == "least" or smaller == machine_of(found[parent]).shape())
                self.assertTrue(all([parent < place for parent in each[5]]))
                if each[0] == "least":
                    self.assertEqual((each[1], each[5]), (found[place - 1][1], (place - 1,)))

    def test_each_formula_has_one_step_and_perhaps_a_least_one(self):
        for formula, _ in samples():
            found = [(each[0] == "least", each[1]) for each in paper_of(sample_book(), formula)]
            self.assertEqual(len(set(found)), len(found))

    def test_the_kinds_of_values(self):
        for formula, _ in samples():
            found = paper_of(sample_book(), formula)
            self.assertIs(type(found), list)
            for each in found:
                kinds = [type(part) for part in each]
                self.assertEqual(kinds, [str, tuple, tuple, tuple, tuple, tuple, tuple])
                self.assertEqual({type(row) for row in each[3]}, {tuple})
                self.assertEqual({type(mark) for mark in each[4]}, {bool})
                if each[0] in ("some", "all"):
                    self.assertEqual({type(members) for members in [*each[6], *each[6][0]]}, {tuple})


class Papers(RefusalTests):
    def test_the_last_step(self):
        for formula, _ in samples():
            found = paper_of(sample_book(), formula)
            names, machine = compile_formula(sample_book(), formula)
            self.assertEqual(found[-1][1:5], (formula, names, *machine.shape()[1:]))
            stated, made = claim(found)
            self.assertEqual((stated, type(made), made.shape()), (formula, Machine, machine.shape()))
            self.assertIs(type(claim(found)), tuple)

    def test_each_step_says_what_is_so(self):
        for formula, bound in samples():
            for each in paper_of(sample_book(), formula):
                for numbers in [(0,) * 6, (1,) * 6, (2, 1, 0, 3, 1, 0), (1, 2, 3, 0, 1, 2)]:
                    numbers = dict(zip(each[2], numbers))
                    wanted = holds(sample_book(), each[1], numbers, bound if bound else 9)
                    self.assertIs(machine_of(each).takes(tuple(numbers.values())), wanted)

    def test_claims_of_other_papers(self):
        found = paper("x < y & pow(x)")
        self.assertEqual(claim(found[:1])[0], parse_formula("x < y"))
        self.assertEqual(claim(tuple(found))[1].shape(), claim(found)[1].shape())

    def test_what_is_refused(self):
        wide, large = "a + b + c + d + e + f + g = 1", "201 * x + 199 * y <= 0"
        book = sample_book()
        book.define("wide", tuple("abcdefg"), parse_formula(wide))
        book.define("large", ("x", "y"), parse_formula(large))
        for error, field, text in [
            (Unknown, "U", f"{wide} & U[x] = 1"), (Unknown, "g", f"{large} & g(x)"),
            (Misused, "count", f"{wide} & even(x, y)"), (Oversized, "width", wide), (Oversized, "states", large),
            (Oversized, "width", f"some a: {wide}"), (Oversized, "width", "a = b & c = d & e = f & pow(g)"),
            (Oversized, "width", "wide(a, a, a, a, a, a, a)"), (Oversized, "states", "large(x, x) & x = 0"),
        ]:
            self.refused(error, field, paper_of, book, parse_formula(text))
        self.assertEqual(len(paper_of(book, parse_formula("a = b & c = d & e = f"))[-1][2]), 6)
        self.assertEqual(paper_of(book, parse_formula("200 * x + 199 * y <= 0"))[0][6][0], 0)

    def test_the_book_and_the_formula_stay_as_they_were(self):
        book = sample_book()
        for formula, _ in samples():
            before = copy.deepcopy(formula)
            paper_of(book, formula)
            self.assertEqual(formula, before)
        self.assertEqual([book.formula(name) for name in book.definitions()], [
            sample_book().formula(name) for name in sample_book().definitions()
        ])
        found = paper("even(x)")
        before = copy.deepcopy(found)
        claim(found)[1].table[0][0] = 5
        step_text(found[0])
        self.assertEqual(found, before)


class Texts(unittest.TestCase):
    def test_the_examples(self):
        self.assertEqual([step_text(each) for each in paper("some y: x = 2 * y")], [
            "eq: x - 2 * y = 0 (3 states)", "some: (some y: x - 2 * y = 0) (4 states; 0)",
            "least: (some y: x - 2 * y = 0) (3 states; 1)",
        ])
        formula = ("and", ("call", "f", ("x",)), ("call", "f", ("y",)))
        other = ("and", formula, ("x", "y"), ((0,) * 4,), (True,), (2, 5), ())
        self.assertEqual(step_text(other), "and: (f(x) & f(y)) (1 states; 2, 5)")

    def test_other_rules(self):
        self.assertEqual([step_text(each) for each in paper("~P[x] = 3 => less(x, x)")], [
            "word: P[x] = 3 (3 states)", "least: P[x] = 3 (2 states; 0)", "not: ~(P[x] = 3) (2 states; 1)",
            "le: x - y + 1 <= 0 (2 states)", "call: less(x, x) (1 states; 3)",
            "imp: (~(P[x] = 3) => less(x, x)) (2 states; 2, 4)",
        ])


if __name__ == "__main__":
    unittest.main()
