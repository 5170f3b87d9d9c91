"""Tests of what the document promises over the whole program: all modules tell the same about a formula."""

import itertools
import random
import unittest

from digitwise.book import check_formula
from digitwise.compiler import Compiler, compile_formula
from digitwise.counting import count_all, count_below, first_numbers
from digitwise.decide import are_same, can_be_met, decide, difference, is_valid
from digitwise.errors import Clashing, Malformed, Misused, Oversized, Refused, Unknown
from digitwise.formulas import free_names, is_formula, rename, show_formula
from digitwise.judge import accepts, decision
from digitwise.least import apart, same
from digitwise.paper import claim, paper_of
from digitwise.parser import parse_book, parse_formula
from digitwise.project import some
from digitwise.tracks import fix
from digitwise.witness import least_tuple, witness
from tests.meaning import holds, sample_book

BOOK = sample_book()


def random_comparison(source, names):
    terms = [
        " + ".join([f"{source.randrange(1, 4)} * {source.choice(names)}" for _ in range(source.randrange(1, 3))])
        for _ in range(2)
    ]
    return f"{terms[0]} {source.choice(['=', '!=', '<', '<=', '>', '>='])} {terms[1]} + {source.randrange(5)}"


def random_part(source, names):
    """Return the text of a formula without parts."""
    one, two = source.choice(names), source.choice(names)
    return source.choice([
        random_comparison(source, names), random_comparison(source, names), f"pow({one})",
        f"T[{one}] = {source.randrange(2)}", f"M[{one}] != {source.randrange(3)}", f"P[{one}] = 2", f"even({one})",
        f"less({one}, {two})", f"first({one}, {two})", f"between({one}, {two}, {one})", f"swapped({one}, {two})",
    ])


def random_text(source, names, depth):
    """Return the text of a formula whose quantifiers are bounded: their numbers are below 6."""
    if depth == 0:
        return random_part(source, names)
    kind = source.randrange(7)
    if kind == 0:
        return f"~({random_text(source, names, depth - 1)})"
    if kind in (1, 2):
        bound = source.choice(names)
        part = random_text(source, names, depth - 1)
        return f"(some {bound}: {bound} < 6 & ({part}))" if kind == 1 else f"(all {bound}: {bound} < 6 => ({part}))"
    left, right = [random_text(source, names, depth - 1) for _ in range(2)]
    return f"({left}) {source.choice(['&', '|', '=>', '<=>'])} ({right})"


def random_formulas(seed, count, names="abc", depth=3):
    """Return formulas that are not refused, the same ones for the same seed."""
    source = random.Random(seed)
    found = []
    while len(found) < count:
        formula = parse_formula(random_text(source, names, source.randrange(depth + 1)))
        try:
            compile_formula(BOOK, formula)
        except Oversized:
            continue
        found.append(formula)
    return found


FORMULAS = random_formulas(91, 150)


class Answers(unittest.TestCase):
    def test_machines_take_what_the_formulas_hold_for(self):
        # All quantifiers of a formula are bounded but those of the definitions, which 6 is enough for, too.
        for formula in FORMULAS:
            names, machine = compile_formula(BOOK, formula)
            for numbers in itertools.product(range(5), repeat=len(names)):
                with self.subTest(formula=show_formula(formula), numbers=numbers):
                    self.assertIs(machine.takes(numbers), holds(BOOK, formula, dict(zip(names, numbers)), 6))

    def test_papers_are_accepted_and_tell_the_same(self):
        for formula in FORMULAS:
            paper = paper_of(BOOK, formula)
            self.assertTrue(accepts(BOOK, paper))
            names, machine = compile_formula(BOOK, formula)
            self.assertEqual((claim(paper)[0], paper[-1][2]), (formula, names))
            self.assertEqual(claim(paper)[1].shape(), machine.shape())
            if not names:
                self.assertEqual(decision(BOOK, paper), (formula, decide(BOOK, formula)))

    def test_closed_formulas(self):
        for formula in FORMULAS:
            names, machine = compile_formula(BOOK, formula)
            for kind, wanted in [("some", can_be_met(BOOK, formula)), ("all", is_valid(BOOK, formula))]:
                closed = formula
                for name in names:
                    closed = (kind, name, closed)
                self.assertIs(decide(BOOK, closed), wanted)
                self.assertEqual(decision(BOOK, paper_of(BOOK, closed)), (closed, wanted))
            self.assertIs(can_be_met(BOOK, formula), witness(BOOK, formula) is not None)
            self.assertIs(is_valid(BOOK, formula), witness(BOOK, ("not", formula)) is None)
            self.assertTrue(can_be_met(BOOK, formula) or count_below(machine, 9) == 0)

    def test_two_formulas_hold_for_the_same_if_their_machines_are_equal(self):
        source = random.Random(92)
        pairs = [tuple(source.sample(FORMULAS, 2)) for _ in range(150)]
        pairs += [(formula, ("not", ("not", formula))) for formula in FORMULAS[:20]]
        for one, two in pairs:
            if free_names(one) != free_names(two):
                continue
            first, second = compile_formula(BOOK, one)[1], compile_formula(BOOK, two)[1]
            try:
                wanted = are_same(BOOK, one, two)
            except Oversized:
                continue
            self.assertIs(first.shape() == second.shape(), wanted)
            self.assertIs(same(first, second), wanted)
            self.assertIs(apart(first, second) is None, wanted)
            if len(free_names(one)) < 3:
                self.assertIs(difference(BOOK, one, two) is None, wanted)

    def test_quantifiers_and_tracks(self):
        for formula in FORMULAS:
            names, machine = compile_formula(BOOK, formula)
            for track, name in enumerate(names):
                quantified = compile_formula(BOOK, ("some", name, formula))[1]
                self.assertTrue(same(some(machine, track), quantified))
                fixed = compile_formula(BOOK, ("some", name, ("and", formula, ("eq", (((name, 1),), -5)))))[1]
                self.assertTrue(same(fix(machine, track, 5), fixed))

    def test_witnesses_and_counts(self):
        for formula in FORMULAS:
            names, machine = compile_formula(BOOK, formula)
            taken = [each for each in itertools.product(range(8), repeat=len(names)) if machine.takes(each)]
            self.assertEqual(count_below(machine, 3), len(taken))
            numbers = least_tuple(machine)
            if taken:
                self.assertLessEqual(numbers, taken[0])
            self.assertEqual(witness(BOOK, formula), None if numbers is None else dict(zip(names, numbers)))
            total = count_all(machine)
            self.assertTrue(total is None or total >= len(taken))
            if len(names) == 1:
                small = [each[0] for each in taken][:3]
                self.assertEqual(first_numbers(machine, len(small)), small)

    def test_renaming_moves_the_tracks(self):
        for formula in FORMULAS:
            names, machine = compile_formula(BOOK, formula)
            turned, moved = dict(zip("abc", "bca")), dict(zip("abc", "xyz"))
            for new in [turned, moved, {"a": "c", "c": "a"}, {"b": "v0"}, {"a": "b"}]:
                renamed = rename(formula, new)
                self.assertTrue(is_formula(renamed))
                others, other = compile_formula(BOOK, renamed)
                for numbers in itertools.product(range(3), repeat=len(others)):
                    given = dict(zip(others, numbers))
                    old = tuple([given.get(new.get(name, name), 0) for name in names])
                    self.assertIs(other.takes(numbers), machine.takes(old))

    def test_definitions_stand_for_their_formulas(self):
        book = sample_book()
        for index, formula in enumerate(FORMULAS[:60]):
            names = tuple(free_names(formula))
            if not names:
                continue
            book.define(f"f{index}", names, formula)
            call = ("call", f"f{index}", tuple(["k", "j", "k"][:len(names)]))
            renamed = rename(formula, dict(zip(names, call[2])))
            self.assertTrue(are_same(book, call, renamed))
            self.assertTrue(accepts(book, paper_of(book, call)))

    def test_texts(self):
        for formula in FORMULAS:
            check_formula(BOOK, formula)
            if show_formula(formula).count("(") < 25:
                self.assertEqual(parse_formula(show_formula(formula)), formula)

    def test_one_compiler_for_all(self):
        compiler = Compiler(BOOK)
        for formula in reversed(FORMULAS):
            names, machine = compiler.compiled(formula)
            others, other = compile_formula(BOOK, formula)
            self.assertEqual((names, machine.shape()), (others, other.shape()))


class Errors(unittest.TestCase):
    def test_each_error_is_refused(self):
        for error, call in [
            (Malformed, lambda: parse_formula("x = ")), (Oversized, lambda: parse_formula("x" * 4001)),
            (Clashing, lambda: parse_book("def f(x): x = 1; def f(y): y = 1;")),
            (Unknown, lambda: decide(BOOK, parse_formula("f(x)"))),
            (Misused, lambda: decide(BOOK, parse_formula("x = 1"))),
            (Oversized, lambda: compile_formula(BOOK, parse_formula("a + b + c + d + e + f + g = 0"))),
        ]:
            with self.assertRaises(Refused) as caught:
                call()
            self.assertIs(type(caught.exception), error)
            self.assertIsInstance(caught.exception, ValueError)
            self.assertEqual(error.__bases__, (Refused,))

    def test_formulas_at_the_limits(self):
        deepest = ("pow", "x")
        for _ in range(29):
            deepest = ("not", deepest)
        largest = [("pow", "x")] * 100
        while len(largest) > 1:
            pairs = [largest[at:at + 2] for at in range(0, len(largest), 2)]
            largest = [("or", *pair) if len(pair) == 2 else pair[0] for pair in pairs]
        # Somewhat beyond the limits nothing is refused.
        deeper = deepest
        for _ in range(40):
            deeper = ("not", deeper)
        for formula in (deepest, largest[0], deeper, ("and", largest[0], ("not", largest[0]))):
            names, machine = compile_formula(BOOK, formula)
            self.assertEqual(names, ("x",))
            paper = paper_of(BOOK, formula)
            self.assertEqual(claim(paper)[1].shape(), machine.shape())
            self.assertEqual(accepts(BOOK, paper), is_formula(formula))


if __name__ == "__main__":
    unittest.main()
