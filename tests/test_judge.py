"""Tests of points 51.1 and 51.2."""

import copy
import itertools
import random
import unittest

from digitwise.book import Book
from digitwise.compiler import compile_formula
from digitwise.decide import decide
from digitwise.formulas import free_names, is_formula
from digitwise.judge import accepts, bad_step, decision
from digitwise.least import least_with_map
from digitwise.linear import equation
from digitwise.machine import Machine
from digitwise.paper import RULES, claim, paper_of
from digitwise.parser import parse_formula
from digitwise.products import both_with_pairs
from tests.meaning import holds, sample_book, samples

BOOK = sample_book()
RULE, FORMULA, NAMES, TABLE, MARKS, PARENTS, LABELS = range(7)
# Texts whose papers have steps of each rule, all of them small.
TEXTS = [
    "some y: x = 2 * y & ~pow(y)", "P[x] = 3 | x < 2", "all y: y < x => M[y] != 1", "first(y, x) <=> less(x, y)",
    "even(x) & odd(z)", "some z: pow(x)", "all z: T[x] = 1", "1 = 2 => nothing(q)", "some2(a, a)", "between(a, b, a)",
    "some x: all y: x <= y",
]


def paper(text):
    return paper_of(BOOK, parse_formula(text))


def papers():
    return [paper(text) for text in TEXTS]


def with_part(step, part, value):
    """Return a step with another value for one of its parts."""
    return (*step[:part], value, *step[part + 1:])


def with_step(found, at, step):
    """Return a paper with another step at an index."""
    return [*found[:at], step, *found[at + 1:]]


def paths(value):
    """Return the list of the ways to all values within a nested tuple, the value itself included."""
    found = [()]
    if isinstance(value, tuple):
        for place, part in enumerate(value):
            found += [(place, *path) for path in paths(part)]
    return found


def at_path(value, path):
    for place in path:
        value = value[place]
    return value


def with_path(value, path, new):
    """Return a nested tuple with another value at the end of a way."""
    if not path:
        return new
    place = path[0]
    return (*value[:place], with_path(value[place], path[1:], new), *value[place + 1:])


def deep(kind, depth=100000):
    """Return a value that is nested very deeply."""
    value = kind()
    for _ in range(depth):
        value = kind([value])
    return value


def deep_formula(depth=100000):
    value = ("pow", "x")
    for _ in range(depth):
        value = ("not", value)
    return value


class Odd:
    """Something of a kind of its own."""


class Equal:
    """Something that is equal to everything."""

    def __eq__(self, other):
        return True

    def __hash__(self):
        return 0


class Wild(Equal):
    """Something that cannot be compared."""

    def __eq__(self, other):
        raise RuntimeError("compared")

    def __hash__(self):
        raise RuntimeError("hashed")

    def __bool__(self):
        raise RuntimeError("asked")


DEEP = [deep(tuple), deep(list), deep_formula()]
JUNK = [
    None, True, False, 0, 1, -1, 2, 10 ** 50, -10 ** 50, 0.0, 1.0, float("nan"), 1j, "", "x", "eq", "least", "0", b"",
    b"x", [],
    (), {}, set(), frozenset(), [0], (0,), (None,), ("x",), {"x": 1}, {0}, (0, 0), ((0,),), [[0]], ((),), ((), ()),
    range(2),
    range, len, Odd, Odd(), Equal(), Wild(), ..., NotImplemented, Book(), parse_formula("x = 3"), (None,) * 7,
    [None] * 7, *DEEP,
]


def says_what_is_so(step, bound=12):
    """Tell whether the machine of a step takes small tuples exactly if the formula holds for them."""
    machine = Machine(len(step[NAMES]), step[TABLE], step[MARKS])
    limit = {0: 1, 1: 9, 2: 5}.get(len(step[NAMES]), 3)
    return all([
        machine.takes(numbers) == holds(BOOK, step[FORMULA], dict(zip(step[NAMES], numbers)), bound)
        for numbers in itertools.product(range(limit), repeat=len(step[NAMES]))
    ])


class JudgeTests(unittest.TestCase):
    def accepted(self, value, book=BOOK):
        self.assertIsNone(bad_step(book, value))
        self.assertIs(accepts(book, value), True)

    def refused(self, value, index, book=BOOK):
        found = bad_step(book, value)
        self.assertEqual((found, type(found)), (index, int))
        self.assertIs(accepts(book, value), False)
        self.assertIsNone(decision(book, value))

    def spoilt(self, found, at, part, value):
        """Ask that a paper is refused at a step with another value for one of its parts."""
        self.refused(with_step(found, at, with_part(found[at], part, value)), at)

    def steps(self):
        """Yield each step of the papers with its paper and index."""
        for found in papers():
            for at, step in enumerate(found):
                yield found, at, step


class MadePapers(JudgeTests):
    def test_the_texts_have_all_rules(self):
        self.assertEqual({step[RULE] for _, _, step in self.steps()}, set(RULES))

    def test_the_samples(self):
        for formula, _ in samples():
            found = paper_of(BOOK, formula)
            self.accepted(found)
            self.accepted(tuple(found))
            self.assertEqual(claim(found)[1].shape(), compile_formula(BOOK, formula)[1].shape())
            if free_names(formula):
                self.assertIsNone(decision(BOOK, found))
            else:
                stated, truth = decision(BOOK, found)
                self.assertEqual(stated, formula)
                self.assertIs(truth, decide(BOOK, formula))
                self.assertIs(type(decision(BOOK, found)), tuple)

    def test_the_texts(self):
        for found in papers():
            self.accepted(found)
            for length in range(1, len(found)):
                self.accepted(found[:length])

    def test_closed_formulas(self):
        for text in [
            "1 = 1", "1 = 2", "all x: some y: y > x & pow(y)", "some x: all y: y <= x", "all x: even(x) <=> ~odd(x)",
            "all x: x > 7 => some y, z: x = 3 * y + 5 * z", "some x: pow(x) & M[x] = 0", "all x: T[x] = 1 => pow(x)",
        ]:
            formula = parse_formula(text)
            self.assertEqual(decision(BOOK, paper(text)), (formula, decide(BOOK, formula)))
            self.assertEqual(decision(BOOK, tuple(paper(text))), (formula, decide(BOOK, formula)))

    def test_six_names(self):
        book = Book()
        self.accepted(paper_of(book, parse_formula("a = b & c = d & e = f")), book)
        self.accepted(paper_of(book, parse_formula("all f: a <= b + c + d + e + f")), book)
        self.accepted(paper_of(book, parse_formula("some x: a + b = c & d + e = x")), book)

    def test_large_machines(self):
        book = Book()
        self.accepted(paper_of(book, parse_formula("200 * x + 199 * y <= 0")), book)
        self.accepted(paper_of(book, parse_formula("some y: 100 * x = 77 * y + 3 * z & y < 4")), book)

    def test_the_arguments_stay_as_they_were(self):
        for found in papers():
            before = copy.deepcopy(found)
            bad_step(BOOK, found)
            decision(BOOK, found)
            self.assertEqual(found, before)
        value = [["eq"], {}, []]
        bad_step(BOOK, value)
        self.assertEqual(value, [["eq"], {}, []])
        self.assertEqual((BOOK.definitions(), BOOK.words()), (sample_book().definitions(), sample_book().words()))


class OtherBooks(JudgeTests):
    def test_words_and_definitions_that_the_book_does_not_have(self):
        for found, at, step in self.steps():
            if step[RULE] in ("word", "call"):
                self.assertIsNotNone(bad_step(Book(), found))
        self.refused(paper("P[x] = 3"), 0, Book())
        self.refused(paper("pow(x) & (~P[x] = 3)"), 1, Book())
        self.refused(paper("first(x, y)"), 1, Book())

    def test_other_words_and_definitions_under_these_names(self):
        book = Book()
        book.tell("P", BOOK.told("M"))
        book.define("first", ("x", "y"), ("pow", "y"))
        book.define("even", ("x",), parse_formula("some y: x = 4 * y"))
        book.define("less", ("x",), parse_formula("x < 4"))
        self.refused(paper("P[x] = 3"), 0, book)
        self.refused(paper("first(x, y)"), 1, book)
        self.refused(paper("even(x)"), 3, book)
        self.refused(paper("less(x, y)"), 1, book)
        self.accepted(paper_of(book, parse_formula("first(x, y) & even(z)")), book)
        self.refused(paper_of(book, parse_formula("first(x, y)")), 1)


class SpoiltSteps(JudgeTests):
    def test_the_rule(self):
        for found, at, step in self.steps():
            for rule in [*RULES, "", "EQ", "eqs", "some ", None, 0, True, [], ["eq"], ("eq",), b"eq", {}]:
                if rule != step[RULE]:
                    self.spoilt(found, at, RULE, rule)

    def test_a_least_rule_without_its_parent(self):
        found = paper("pow(x)")
        self.spoilt(found, 0, RULE, "least")

    def test_the_formula(self):
        formulas = [step[FORMULA] for _, _, step in self.steps()]
        for found, at, step in self.steps():
            for formula in formulas:
                if formula != step[FORMULA]:
                    self.spoilt(found, at, FORMULA, formula)

    def test_formulas_that_differ_in_one_place(self):
        for text, others in [
            ("x = 2 * y", ["x = 3 * y", "x = 2 * y + 1", "x = 2 * z", "x <= 2 * y", "y = 2 * x"]),
            ("x <= 2 * y", ["x < 2 * y", "x = 2 * y", "x <= 3 * y", "a <= 2 * y"]),
            ("pow(x)", ["pow(y)", "T[x] = 1"]),
            ("M[x] = 1", ["M[x] = 2", "M[x] = 3", "T[x] = 1", "M[y] = 1", "U[x] = 1"]),
            ("~pow(x)", ["~pow(y)", "~T[x] = 1", "~~pow(x)"]),
            ("pow(x) & T[y] = 1", [
                "pow(x) | T[y] = 1", "pow(x) => T[y] = 1", "T[y] = 1 & pow(x)", "pow(y) & T[x] = 1",
            ]),
            ("some y: x < y", ["all y: x < y", "some x: x < y", "some z: x < y", "some z: x < z"]),
            ("all y: x < y", ["some y: x < y", "all x: x < y", "all z: x < y"]),
            ("less(x, y)", [
                "less(y, x)", "less(x, x)", "swapped(x, y)", "less(x, z)", "less(x)", "less(x, y, y)", "lesser(x, y)",
            ]),
        ]:
            found = paper(text)
            while found[-1][RULE] == "least":
                found.pop()
            for other in others:
                with self.subTest(text=text, other=other):
                    self.spoilt(found, len(found) - 1, FORMULA, parse_formula(other))

    def test_values_that_are_no_formulas(self):
        for found, at, step in self.steps():
            for formula in [
                (), ("eq",), ("eq", ()), ("eq", ((), 1.0)), ("eq", ((("x", 0),), 1)), ("eq", ((("x", True),), 1)),
                ("le", ((("x", 256),), 1)), ("pow", "X"), ("pow", "some"), ("word", "T", "x", 10),
                ("word", "T", "x", True),
                ("call", "even", ()), ("call", "even", ["x"]), ["pow", "x"], ("not", None),
                ("nor", ("pow", "x"), ("pow", "x")),
                list(step[FORMULA]),
            ]:
                self.spoilt(found, at, FORMULA, formula)

    def test_formulas_that_are_too_large(self):
        wide = ("pow", "x")
        for _ in range(7):
            wide = ("and", wide, wide)
        long = ("pow", "x")
        for _ in range(30):
            long = ("not", long)
        self.assertEqual([is_formula(wide), is_formula(long)], [False, False])
        # Their parts are the largest that there may be, and the steps are right but for the formula.
        for formula, labels in [(long, ()), (wide, ((0, 0), (1, 1), (2, 2)))]:
            found = paper_of(BOOK, formula[1])
            self.accepted(found)
            parents = (len(found) - 1,) * (len(formula) - 1)
            marks = tuple([mark == (formula is wide) for mark in found[-1][MARKS]])
            step = (formula[0], formula, ("x",), found[-1][TABLE], marks, parents, labels)
            self.refused([*found, step], len(found))
            smaller = (formula[0], *[("pow", "x")] * (len(formula) - 1))
            [power] = paper("pow(x)")
            marks = tuple([mark == (formula is wide) for mark in power[MARKS]])
            self.accepted([power, (formula[0], smaller, ("x",), power[TABLE], marks, (0,) * len(parents), labels)])

    def test_the_names(self):
        for found, at, step in self.steps():
            names = step[NAMES]
            for other in [
                (*names, "zz"), names[1:], names[:-1], tuple(reversed(names)), ("x", *names), list(names), None,
                (*names, None),
                tuple([name + "1" for name in names]), tuple([[name] for name in names]), "".join(names),
                (*names, *names), (),
            ]:
                if other != names:
                    self.spoilt(found, at, NAMES, other)

    def test_each_successor(self):
        for found, at, step in self.steps():
            table = step[TABLE]
            for state, row in enumerate(table):
                for letter, behind in enumerate(row):
                    for other in [*range(len(table)), -1, len(table), None, float(behind), str(behind), [behind]]:
                        if other != behind or type(other) is float:
                            changed = with_path(table, (state, letter), other)
                            self.spoilt(found, at, TABLE, changed)

    def test_the_form_of_the_table(self):
        for found, at, step in self.steps():
            table = step[TABLE]
            for other in [
                (), None, list(table), [list(row) for row in table], tuple([list(row) for row in table]), table[:-1],
                (*table, table[0]), (*table, (0,) * len(table[0])), tuple([row[:-1] for row in table]),
                tuple([(*row, 0) for row in table]), (*table[:-1], list(table[-1])), (*table[:-1], None), table[0], {},
                tuple([{letter: state for letter, state in enumerate(row)} for row in table]),
            ]:
                if other != table:
                    self.spoilt(found, at, TABLE, other)

    def test_the_marks(self):
        for found, at, step in self.steps():
            marks = step[MARKS]
            for state, mark in enumerate(marks):
                for other in [not mark, int(mark), None, "", [mark], (mark,), float(mark)]:
                    self.spoilt(found, at, MARKS, with_path(marks, (state,), other))
            for other in [
                (), None, list(marks), marks[:-1], (*marks, False), (*marks, True), tuple([not mark for mark in marks]),
                tuple([int(mark) for mark in marks]), {},
            ]:
                self.spoilt(found, at, MARKS, other)

    def test_the_parents(self):
        for found, at, step in self.steps():
            parents = step[PARENTS]
            for place, parent in enumerate(parents):
                formula = found[parent][FORMULA]
                others = [other for other in range(at) if found[other][FORMULA] != formula]
                others += [-1, at, at + 1, len(found), parent - at, parent - len(found)]
                others += [None, str(parent), float(parent), [parent], (parent,)]
                for other in others:
                    self.spoilt(found, at, PARENTS, with_path(parents, (place,), other))
            for other in [
                (*parents, 0), (0, *parents), parents[1:], list(parents), None, (*parents, None), {}, 0, (True, False),
            ]:
                if other != parents:
                    self.spoilt(found, at, PARENTS, other)

    def test_parents_that_are_true_or_false(self):
        found = paper("~pow(x)")
        self.spoilt(found, 1, PARENTS, (False,))
        found = [*paper("pow(y)"), *paper("pow(x)"), with_part(paper("~pow(x)")[1], PARENTS, (1,))]
        self.accepted(found)
        self.spoilt(found, 2, PARENTS, (True,))

    def test_parents_in_the_wrong_order(self):
        found = paper("pow(x) & T[x] = 1")
        at = [place for place, step in enumerate(found) if step[RULE] == "and"][0]
        self.spoilt(found, at, PARENTS, tuple(reversed(found[at][PARENTS])))

    def test_each_label(self):
        for found, at, step in self.steps():
            labels = step[LABELS]
            if step[RULE] in ("some", "all"):
                continue
            for state, label in enumerate(labels):
                others = [-7, 0, 1, 2, 3, None, "", 0.0, True, False]
                others += [(), (0,), (0, 0), (0, 1), (1, 0), (1, 1), [0, 0], (0, 0, 0)]
                for other in others:
                    if other != label or type(other) is not type(label):
                        self.spoilt(found, at, LABELS, with_path(labels, (state,), other))
                if label is not None and not isinstance(label, tuple):
                    self.spoilt(found, at, LABELS, with_path(labels, (state,), float(label)))
                if isinstance(label, tuple):
                    self.spoilt(found, at, LABELS, with_path(labels, (state,), list(label)))
                    self.spoilt(found, at, LABELS, with_path(labels, (state, 0), float(label[0])))

    def test_the_form_of_the_labels(self):
        for found, at, step in self.steps():
            labels = step[LABELS]
            for other in [
                None, list(labels), (*labels, 0), (*labels, None), (*labels, ()), (*labels, labels[-1:]), (0, *labels),
                {}, 0, "",
                labels[:-1] if labels else (None,), labels[1:] if labels else ((),), (labels,), dict(enumerate(labels)),
            ]:
                self.spoilt(found, at, LABELS, other)

    def test_labels_where_none_stand(self):
        found = paper("~pow(x)")
        for other in [(0, 1, 2), (0,), (None,), ((),), [], None, 0, "", {}]:
            self.spoilt(found, 1, LABELS, other)

    def test_none_is_no_label_of_an_inequality(self):
        found = paper("x <= 4")
        for state in range(len(found[0][LABELS])):
            self.spoilt(found, 0, LABELS, with_path(found[0][LABELS], (state,), None))
        for labels in [(None,), (None, None), (0,)]:
            self.refused([("le", ("le", ((), 1)), (), ((0,),), (False,), (), labels)], 0)
        self.accepted([("le", ("le", ((), 1)), (), ((0,),), (False,), (), (-1,))])

    def test_the_sets(self):
        for found, at, step in self.steps():
            if step[RULE] not in ("some", "all"):
                continue
            size = len(found[step[PARENTS][0]][TABLE])
            sets, ranks = step[LABELS]
            for state, members in enumerate(sets):
                others = [each for count in range(size + 1) for each in itertools.combinations(range(size), count)]
                others += [
                    list(members), None, 0, "", {}, set(members), members[::-1] + members, (*members, members[-1]),
                    (*members, size), (-1, *members), tuple([float(member) for member in members]), (None,), ((0,),),
                    tuple([str(member) for member in members]), (False,), (True,), (False, True), frozenset(members),
                ]
                for other in others:
                    if other != members or type(other[0]) is not int:
                        self.spoilt(found, at, LABELS, (with_path(sets, (state,), other), ranks))
                if len(members) > 1:
                    self.spoilt(found, at, LABELS, (with_path(sets, (state,), members[::-1]), ranks))
            for other in [(), None, list(sets), sets[:-1], (*sets, sets[-1]), (*sets, ()), sets[0], 0, {}, ranks]:
                self.spoilt(found, at, LABELS, (other, ranks))

    def test_the_ranks(self):
        for found, at, step in self.steps():
            if step[RULE] not in ("some", "all"):
                continue
            sets, ranks = step[LABELS]
            marks = found[step[PARENTS][0]][MARKS]
            goals = marks if step[RULE] == "some" else [not mark for mark in marks]
            for state, rank in enumerate(ranks):
                # None and 0 are right for some states only, and no rank is right without the one before.
                others = [-1, 1000, 10 ** 40, "", "0", 0.0, 1.0, True, False, (), [], (0,)]
                others += [0] if not goals[state] else []
                others += [None] if rank is not None else [0, 1, 2, 3]
                for other in others:
                    self.spoilt(found, at, LABELS, (sets, with_path(ranks, (state,), other)))
            for other in [(), None, list(ranks), ranks[:-1], (*ranks, 0), (*ranks, None), 0, {}, sets, (ranks,)]:
                self.spoilt(found, at, LABELS, (sets, other))
            for other in [(sets,), (sets, ranks, ()), (ranks, sets), [sets, ranks], ()]:
                self.spoilt(found, at, LABELS, other)

    def test_ranks_behind_free_letters_only(self):
        # Behind digits of y alone there is an accepting state from few states on, as x is larger.
        found = paper("some y: x = 2 * y + 1")
        sets, ranks = found[1][LABELS]
        self.assertEqual((found[0][MARKS].index(True), ranks[found[0][MARKS].index(True)]), (2, 0))
        self.assertIn(None, ranks)
        for state, rank in enumerate(ranks):
            if rank is None:
                for other in (0, 1, 2):
                    self.spoilt(found, 1, LABELS, (sets, with_path(ranks, (state,), other)))

    def test_the_length_of_a_step(self):
        for found, at, step in self.steps():
            for other in [
                (), step[:-1], (*step, ()), (*step, None), step[1:], list(step), None, step[FORMULA], [*step], {}, "",
                0, (step,),
                dict(enumerate(step)),
            ]:
                self.refused(with_step(found, at, other), at)

    def test_the_first_step_that_is_not_accepted(self):
        for found in papers():
            for at in range(len(found)):
                self.refused(with_step(found, at, None), at)
                self.refused([*found[:at], None, None, *found], at)
                self.refused([*found, *found[:at], 7], len(found) + at)


class OtherValues(JudgeTests):
    def test_values_that_are_no_papers(self):
        for value in [
            None, True, 0, 1.5, "", "eq", b"", {}, set(), {0: paper("pow(x)")[0]}, iter(paper("pow(x)")), range(3),
            Odd(), Odd, len,
            deep_formula, Book(), (), [], frozenset(paper("pow(x)")),
        ]:
            self.refused(value, 0)

    def test_lists_and_tuples_of_other_values(self):
        for value in JUNK:
            self.refused([value], 0)
            self.refused((value,), 0)
            self.refused([*paper("pow(x)"), value], 1)
            self.refused((*paper("even(x)"), value, *paper("pow(x)")), 4)

    def test_deep_values(self):
        for value in DEEP:
            self.refused(value, 0)
            for found, at, step in self.steps():
                for part in range(7):
                    self.spoilt(found, at, part, value)
        circle = []
        circle.append(circle)
        self.refused(circle, 0)
        self.refused((circle,), 0)
        for part in range(7):
            self.spoilt(paper("~pow(x)"), 1, part, circle)
            self.spoilt(paper("~pow(x)"), 1, part, (circle,))

    def test_other_values_in_the_place_of_each_part(self):
        for text in TEXTS:
            found = paper(text)
            for at, step in enumerate(found):
                for path in [path for path in paths(step) if path]:
                    for value in JUNK:
                        # What is accepted must be right all the same, and nothing may raise an error.
                        changed = with_step(found, at, with_path(step, path, value))
                        index = bad_step(BOOK, changed)
                        self.assertTrue(index is None or index >= at)
                        if index is None:
                            self.assertTrue(says_what_is_so(changed[at]))

    def test_other_kinds_of_the_same_values(self):
        for found, at, step in self.steps():
            for path in [path for path in paths(step) if path]:
                old = at_path(step, path)
                others = {
                    int: [float, str, lambda each: [each], lambda each: (each,), complex],
                    bool: [int, float, str, lambda each: [each], lambda each: None if not each else "True"],
                    str: [
                        lambda each: Equal(), lambda each: each.encode(), lambda each: [each], lambda each: (each,),
                        lambda each: each + " ",
                    ],
                    tuple: [list, str, iter, lambda each: dict(enumerate(each)), lambda each: [each]],
                    type(None): [str, lambda each: (), lambda each: False, lambda each: float("nan")],
                }[type(old)]
                for other in others:
                    self.refused(with_step(found, at, with_path(step, path, other(old))), at)
                if type(old) is int and old in (0, 1):
                    self.refused(with_step(found, at, with_path(step, path, bool(old))), at)


class PapersOfOthers(JudgeTests):
    """Papers that paper_of does not make, and which are right."""

    def test_steps_in_another_order_and_twice(self):
        one, two = paper("pow(x)"), paper("x < y")
        step = paper("pow(x) & x < y")[2]
        self.assertEqual((step[RULE], step[PARENTS]), ("and", (0, 1)))
        self.accepted([*two, *one, with_part(step, PARENTS, (1, 0))])
        self.accepted([*one, *one, *two, *two, with_part(step, PARENTS, (0, 3)), with_part(step, PARENTS, (1, 2))])
        self.accepted([*one, *two, step, step, *one])

    def test_steps_that_are_not_needed(self):
        self.accepted([*paper("K[y] = 3"), *paper("pow(x)")])
        self.assertEqual(decision(BOOK, [*paper("pow(x)"), *paper("1 = 1")]), (parse_formula("1 = 1"), True))
        self.assertIsNone(decision(BOOK, [*paper("1 = 1"), *paper("pow(x)")]))

    def test_parents_that_are_not_least(self):
        found = paper("some y: 2 * x = 6 & y = x")
        at = [place for place, step in enumerate(found) if step[RULE] == "and"][0]
        self.assertEqual([step[RULE] for step in found[:at]], ["eq", "least", "eq"])
        one, two = [Machine(1, found[0][TABLE], found[0][MARKS]), Machine(2, found[2][TABLE], found[2][MARKS])]
        wide = Machine(2, [[row[letter & 1] for letter in range(4)] for row in one.table], one.accepting)
        machine, pairs = both_with_pairs(wide, two, "and")
        _, table, marks = machine.shape()
        step = ("and", found[at][FORMULA], ("x", "y"), table, marks, (0, 2), tuple(pairs))
        self.accepted([*found[:at], step])
        self.accepted([found[0], found[2], with_part(step, PARENTS, (0, 1))])

    def renumbered(self, step, order):
        """Return a step with its states in another order, of which the first is 0."""
        places = {state: place for place, state in enumerate(order)}
        table = tuple([tuple([places[behind] for behind in step[TABLE][state]]) for state in order])
        marks = tuple([step[MARKS][state] for state in order])
        labels = step[LABELS]
        if step[RULE] in ("some", "all"):
            labels = (tuple([labels[0][state] for state in order]), labels[1])
        elif step[RULE] == "least":
            labels = tuple([places[label] for label in labels])
        elif step[RULE] != "not":
            labels = tuple([labels[state] for state in order])
        return (*step[:TABLE], table, marks, step[PARENTS], labels)

    def test_states_in_another_order(self):
        for found, at, step in self.steps():
            size = len(step[TABLE])
            order = [0, *range(size - 1, 0, -1)]
            if step[RULE] == "not":
                if size > 2:
                    self.refused([*found[:at], self.renumbered(step, order)], at)
                continue
            self.accepted([*found[:at], self.renumbered(step, order)])
            if size > 1:
                self.refused([*found[:at], self.renumbered(step, [1, 0, *range(2, size)])], at)

    def doubled(self, step):
        """Return a step with each state twice; the second ones are not reached."""
        size = len(step[TABLE])
        table = (*step[TABLE], *[tuple([behind + size for behind in row]) for row in step[TABLE]])
        labels = step[LABELS]
        labels = (labels[0] * 2, labels[1]) if step[RULE] in ("some", "all") else labels * 2
        return (*step[:TABLE], table, step[MARKS] * 2, step[PARENTS], labels)

    def test_states_that_cannot_be_reached(self):
        for found, at, step in self.steps():
            if step[RULE] in ("not", "least"):
                continue
            doubled = self.doubled(step)
            self.accepted([*found[:at], doubled])
            # The labels of all states are asked, also of those that cannot be reached.
            size = len(step[TABLE])
            for state in range(size, 2 * size):
                marks = with_path(doubled[MARKS], (state,), not doubled[MARKS][state])
                self.refused([*found[:at], with_part(doubled, MARKS, marks)], at)
                if step[RULE] not in ("some", "all"):
                    labels = with_path(doubled[LABELS], (state,), 10 ** 50)
                    self.refused([*found[:at], with_part(doubled, LABELS, labels)], at)

    def test_labels_of_states_that_cannot_be_reached(self):
        [step] = paper("x = 3")
        size = len(step[TABLE])
        for label, row, mark in [(None, (2, 2), False), (0, (3, 2), True), (6, (0, 2), False), (7, (2, 0), False)]:
            labels = step[LABELS]
            self.assertEqual(labels, (3, None, 1, 0))
            row = tuple([{2: 1, 3: 3, 0: 0}[behind] for behind in row])
            added = (*step[:TABLE], (*step[TABLE], row), (*step[MARKS], mark), (), (*labels, label))
            self.accepted([added])
            self.refused([with_part(added, LABELS, (*labels, 10 ** 50))], 0)
            self.refused([with_part(added, LABELS, (*labels, 5))], 0)
        self.assertEqual(size, 4)

    def test_marks_that_are_right_for_the_labels_only(self):
        # The state that cannot be reached would make no difference, but it is asked.
        [step] = paper("pow(x)")
        added = (*step[:TABLE], (*step[TABLE], (3, 2)), (*step[MARKS], True), (), (0, 1, 2, 1))
        self.accepted([added])
        self.refused([with_part(added, MARKS, (False, True, False, False))], 0)
        self.refused([with_part(added, LABELS, (0, 1, 2, 0))], 0)
        self.refused([with_part(added, TABLE, (*step[TABLE], (3, 1)))], 0)

    def test_least_steps_behind_any_step(self):
        for found, at, step in self.steps():
            size = len(step[TABLE])
            same = ("least", *step[1:PARENTS], (at,), tuple(range(size)))
            self.accepted([*found[:at + 1], same])
            machine = Machine(len(step[NAMES]), step[TABLE], step[MARKS])
            smallest, states = least_with_map(machine)
            _, table, marks = smallest.shape()
            self.accepted([*found[:at + 1], same, ("least", *step[1:TABLE], table, marks, (at + 1,), tuple(states))])

    def test_least_steps_with_more_states_than_needed(self):
        found = paper("pow(x)")
        step = found[0]
        more = ("least", *step[1:TABLE], (*step[TABLE], (3, 3)), (*step[MARKS], True), (0,), (0, 1, 2))
        # No state of the parent has the label 3, so nothing is asked of it.
        self.accepted([step, more])
        self.refused([step, with_part(more, LABELS, (0, 1, 3))], 1)
        self.refused([step, with_part(more, LABELS, (0, 1, None))], 1)
        self.refused([step, with_part(more, LABELS, (0, 1, 2, 3))], 1)

    def test_ranks_that_are_not_the_least(self):
        found = [
            ("le", ("le", ((("x", 1),), -1)), ("x",), ((1, 1), (1, 2), (2, 2)), (True, True, False), (), (1, 0, -1)),
        ]
        self.accepted(found)
        step = ("some", ("some", "x", found[0][FORMULA]), (), ((1,), (2,), (2,)), (True, True, True), (0,))
        sets = ((0,), (1,), (1, 2))
        for ranks in [(0, 0, None), (1, 0, None)]:
            self.accepted([*found, (*step, (sets, ranks))])
        for ranks in [(2, 0, None), (None, 0, None), (0, None, None), (1, 1, None), (1, 2, None), (0, 0, 0), (0, 0, 1)]:
            self.refused([*found, (*step, (sets, ranks))], 1)

    def test_ranks_of_states_that_are_in_no_set(self):
        for text, rule in [("some y: y > x + 5", "some"), ("all y: y <= x + 5", "all")]:
            found = paper(text)
            [at] = [place for place, step in enumerate(found) if step[RULE] == rule]
            parents = [*found[:at - 1], self.doubled(found[at - 1])]
            self.accepted(parents)
            sets, ranks = found[at][LABELS]
            step = with_part(found[at], LABELS, (sets, ranks * 2))
            self.accepted([*parents, step])
            self.assertGreater(max([rank for rank in ranks if rank is not None]), 1)
            for state, rank in enumerate(ranks):
                for other in [None, 0, 1, 2, 3, 4, -1]:
                    if other != rank and (other is None or rank is None or rank > 0):
                        wrong = with_path(ranks * 2, (len(ranks) + state,), other)
                        self.refused([*parents, with_part(step, LABELS, (sets, wrong))], at)

    def test_empty_sets(self):
        found = paper("some y: x < y")
        at = [place for place, step in enumerate(found) if step[RULE] == "some"][0]
        step = found[at]
        sets, ranks = step[LABELS]
        size = len(step[TABLE])
        table = (*step[TABLE], (size, size))
        added = (*step[:TABLE], table, (*step[MARKS], False), step[PARENTS], ((*sets, ()), ranks))
        self.accepted([*found[:at], added])
        self.refused([*found[:at], with_part(added, MARKS, (*step[MARKS], True))], at)
        self.refused([*found[:at], with_part(added, TABLE, (*step[TABLE], (size, 0)))], at)
        found = paper("all y: x < y")
        at = [place for place, step in enumerate(found) if step[RULE] == "all"][0]
        step = found[at]
        sets, ranks = step[LABELS]
        size = len(step[TABLE])
        table = (*step[TABLE], (size, size))
        added = (*step[:TABLE], table, (*step[MARKS], True), step[PARENTS], ((*sets, ()), ranks))
        self.accepted([*found[:at], added])
        self.refused([*found[:at], with_part(added, MARKS, (*step[MARKS], False))], at)

    def test_sets_of_a_bound_name_that_is_not_free(self):
        found = paper("some y: pow(x)")
        step = found[1]
        # A state with a set of two more, which cannot be reached.
        sets, ranks = ((0,), (1,), (2,), (0, 1), (1, 2), (0, 2)), (None, 0, None)
        table = (*step[TABLE], (3, 4), (4, 2), (5, 4))
        added = (*step[:TABLE], table, (False, True, False, True, True, False), (0,), (sets, ranks))
        self.accepted([found[0], added])
        self.refused([found[0], with_part(added, MARKS, (False, True, False, True, True, True))], 1)
        # A set is ascending, also where no letter leads to it.
        for members in [(1, 0), (0, 0), (0, 1, 1), (2, 1), [0, 1], (0, 3), (-1, 1), (0, True), (0, None)]:
            self.refused([found[0], with_part(added, LABELS, ((*sets[:3], members, *sets[4:]), ranks))], 1)
            self.refused([found[0], with_part(added, LABELS, ((*sets[:5], members), ranks))], 1)
            unreached = (*step[:TABLE], (*table, (3, 4)), (*added[MARKS], True), (0,))
            self.refused([found[0], (*unreached, ((*sets, members), ranks))], 1)
        self.accepted([found[0], (*unreached, ((*sets, (0, 1)), ranks))])
        # The free letter is the letter 0 alone: behind 1 the state 0 leads to an accepting one.
        self.refused([found[0], with_part(step, LABELS, (((0,), (1,), (2,)), (1, 0, None)))], 1)
        # The rank 1 is right where the letter 0 leads to the rank 0.
        [parent] = paper("P[x] = 2")[:1]
        other = ("some", ("some", "y", parent[FORMULA]), ("x",), parent[TABLE], parent[MARKS], (0,))
        self.assertEqual((parent[TABLE][0], parent[MARKS]), ((1, 2), (True, True, False)))
        sets = tuple([(state,) for state in range(3)])
        self.accepted([parent, (*other, (sets, (0, 0, None)))])
        self.accepted([parent, (*other, (sets, (1, 0, None)))])
        self.refused([parent, (*other, (sets, (0, 1, None)))], 1)
        self.refused([parent, (*other, (sets, (2, 0, None)))], 1)

    def test_parents_with_machines_of_others(self):
        found = paper("~pow(x)")
        doubled = self.doubled(found[0])
        marks = tuple([not mark for mark in doubled[MARKS]])
        self.accepted([doubled, with_part(with_part(found[1], TABLE, doubled[TABLE]), MARKS, marks)])
        self.refused([doubled, found[1]], 1)

    def test_a_call_of_a_formula_that_was_no_definition(self):
        found = paper("x < y")
        call = paper("less(a, b)")[1]
        self.assertEqual(call[PARENTS], (0,))
        self.accepted([*found, call])

    def test_what_is_accepted_is_right(self):
        source = random.Random(81)
        accepted = 0
        for _ in range(4000):
            found = paper(source.choice(TEXTS))
            at = source.randrange(len(found))
            step = found[at]
            for _ in range(source.randrange(1, 4)):
                ways = [path for path in paths(step) if path and not isinstance(at_path(step, path), (tuple, str))]
                path = source.choice(ways)
                old = at_path(step, path)
                new = (not old) if isinstance(old, bool) else source.choice([None, 0, 1, 2, 3, old])
                step = with_path(step, path, new)
            changed = with_step(found, at, step)
            index = bad_step(BOOK, changed)
            if index is None:
                accepted += 1
                self.assertTrue(all([says_what_is_so(each) for each in changed]))
            else:
                self.assertGreaterEqual(index, at)
        self.assertGreater(accepted, 20)


class Soundness(JudgeTests):
    def test_numbers_with_more_digits_than_the_others(self):
        # x = 0 is not less than half of itself, but some y has more digits than x.
        found = paper("some y: y > x + 5")
        self.accepted(found)
        self.assertIs(claim(found)[1].takes((0,)), True)
        at = [place for place, step in enumerate(found) if step[RULE] == "some"][0]
        sets, ranks = found[at][LABELS]
        self.assertGreater(max([rank for rank in ranks if rank is not None]), 1)
        # With None in the place of ranks, and the marks that follow.
        for limit in range(max([rank for rank in ranks if rank is not None])):
            lower = tuple([rank if rank is not None and rank <= limit else None for rank in ranks])
            step = with_part(found[at], LABELS, (sets, lower))
            self.refused([*found[:at], step], at)
            marks = tuple([any([lower[state] is not None for state in members]) for members in sets])
            self.refused([*found[:at], with_part(step, MARKS, marks)], at)

    def test_goals_without_ranks(self):
        for quantifier, text in [
            ("some", "x <= 1"), ("all", "x > 1"), ("some", "y <= x"), ("all", "1 = 2"), ("some", "1 = 1"),
        ]:
            found = paper(f"{quantifier} x: {text}")
            at = [place for place, step in enumerate(found) if step[RULE] == quantifier][0]
            sets, ranks = found[at][LABELS]
            self.assertIn(0, ranks)
            nowhere = with_part(found[at], LABELS, (sets, (None,) * len(ranks)))
            self.refused([*found[:at], nowhere], at)
            self.refused([*found[:at], with_part(nowhere, MARKS, (quantifier == "all",) * len(sets))], at)

    def test_ranks_without_goals(self):
        for quantifier, text in [("some", "x < 0"), ("all", "x >= 0"), ("some", "1 = 2"), ("all", "1 = 1")]:
            found = paper(f"{quantifier} x: {text}")
            at = [place for place, step in enumerate(found) if step[RULE] == quantifier][0]
            sets, ranks = found[at][LABELS]
            self.assertEqual(set(ranks), {None})
            for rank in (0, 1, 2, -1):
                ranked = with_part(found[at], LABELS, (sets, (rank,) * len(ranks)))
                self.refused([*found[:at], ranked], at)
                self.refused([*found[:at], with_part(ranked, MARKS, (quantifier == "some",) * len(sets))], at)

    def test_a_machine_that_is_not_settled(self):
        found = paper("x = 1")
        self.assertEqual(equation([1], -1)[1], [1, None, 0])
        step = found[0]
        self.spoilt(found, 0, TABLE, with_path(step[TABLE], (2, 0), 1))
        self.refused([("pow", ("pow", "x"), ("x",), ((1, 1), (0, 0)), (True, False), (), (0, 0))], 0)

    def test_too_many_states(self):
        table = tuple([(0, 0, 0, 0)] * 401)
        step = ("le", parse_formula("x - y <= 0"), ("x", "y"), table, (True,) * 401, (), (0,) * 401)
        self.refused([step], 0)
        [step] = paper("pow(x)")
        extra = 397
        table = (*step[TABLE], *[(2, 2)] * extra)
        largest = (*step[:TABLE], table, (*step[MARKS], *[False] * extra), (), (0, 1, 2, *[2] * extra))
        self.accepted([largest])
        extra += 1
        table = (*step[TABLE], *[(2, 2)] * extra)
        larger = (*step[:TABLE], table, (*step[MARKS], *[False] * extra), (), (0, 1, 2, *[2] * extra))
        self.refused([larger], 0)

    def test_seven_names(self):
        formula = parse_formula("a + b + c + d + e + f + g = 1")
        step = ("eq", formula, tuple("abcdefg"), ((0,) * 128,), (False,), (), (-1,))
        self.refused([step], 0)


if __name__ == "__main__":
    unittest.main()
