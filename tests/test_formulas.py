"""Tests of points 4.1, 4.2 and 4.3, and of show_formula."""

import copy
import unittest

from digitwise.errors import Oversized
from digitwise.formulas import all_names, free_names, is_formula, levels, node_count, rename, show_formula
from digitwise.terms import linear, value

JOINTS = ["and", "or", "imp", "iff"]
QUANTIFIERS = ["some", "all"]


def term(*pairs, constant=0):
    return linear(list(pairs), constant)


def equal(one, two):
    return ("eq", term((one, 1), (two, -1)))


POWER = ("pow", "x")
EQUATION = ("eq", term(("x", 1), ("y", -2)))
INEQUALITY = ("le", term(("y", 1), constant=-3))
WORD = ("word", "T", "z", 3)
CALL = ("call", "f", ("x", "w", "x"))
EACH_KIND = [
    POWER, EQUATION, INEQUALITY, WORD, CALL, ("not", POWER),
    *[(joint, EQUATION, WORD) for joint in JOINTS],
    *[(quantifier, "x", EQUATION) for quantifier in QUANTIFIERS],
]


def nested(count):
    """Return a formula with this many nodes and levels."""
    formula = POWER
    for _ in range(count - 1):
        formula = ("not", formula)
    return formula


def wide(count):
    """Return a formula with this odd number of nodes and as few levels as possible."""
    if count == 1:
        return POWER
    half = (count - 1) // 2
    one = half if half % 2 == 1 else half - 1
    return ("and", wide(one), wide(count - 1 - one))


class IsFormula(unittest.TestCase):
    def none_of_these(self, values):
        for given in values:
            self.assertIs(is_formula(given), False, given)
            self.assertIs(is_formula(("not", given)), False, given)
            self.assertIs(is_formula(("or", given, POWER)), False, given)
            self.assertIs(is_formula(("iff", POWER, given)), False, given)
            self.assertIs(is_formula(("some", "x", given)), False, given)

    def test_each_kind(self):
        for formula in EACH_KIND:
            self.assertIs(is_formula(formula), True, formula)
            self.assertIs(is_formula(("not", formula)), True, formula)
            for joint in JOINTS:
                self.assertIs(is_formula((joint, formula, formula)), True, formula)
            for quantifier in QUANTIFIERS:
                self.assertIs(is_formula((quantifier, "x1", formula)), True, formula)

    def test_values_that_are_no_tuples(self):
        self.none_of_these([
            None, True, False, 0, 1.5, "", "eq", "pow(x)", b"eq", [], {}, object(), is_formula, list(POWER), [POWER],
        ])

    def test_tuples_without_a_kind(self):
        self.none_of_these([
            (), ("",), ("x",), ("nor", POWER, POWER), ("AND", POWER, POWER), (None, POWER), (0, POWER), (True, POWER),
            (["pow"], "x"), ([], "x"), ({}, "x"), (POWER, "x"), (b"pow", "x"), ("ne", term()), ((), ()), (POWER,),
        ])

    def test_wrong_lengths(self):
        for formula in EACH_KIND:
            self.none_of_these([formula[:-1], (*formula, POWER), (*formula, "x"), (*formula, None), (formula[0],)])

    def test_wrong_terms(self):
        for kind in ["eq", "le"]:
            self.none_of_these([
                (kind, wrong) for wrong in [
                    None, "x", 0, (), [(), 0], ((("x", 0),), 0), ((("x", 256),), 0), ((), 256), ((), -256), ((), True),
                    ((("y", 1), ("x", 1)), 0), ((("some", 1),), 0), ([("x", 1)], 0), ((("x", True),), 0), POWER,
                ]
            ])

    def test_wrong_names(self):
        for name in [None, 0, "", "X", "T", "some", "all", "x y", "abcdefghijklm", "x_", ("x",), ["x"], b"x", POWER]:
            self.none_of_these([
                ("pow", name), ("word", "T", name, 0), ("some", name, POWER), ("all", name, POWER),
                ("call", name, ("x",)), ("call", "f", (name,)), ("call", "f", ("x", name)), ("call", "f", (name, "x")),
            ])

    def test_wrong_words(self):
        self.none_of_these([
            ("word", word, "x", 0)
            for word in [None, 0, "", "t", "Tt", "tT", "1T", "T_", "T ", "ABCDEFGHIJKLM", "\u00c9", ("T",), ["T"], b"T"]
        ])

    def test_long_words_and_names(self):
        self.assertIs(is_formula(("word", "ABCDEFGHIJK9", "abcdefghijk9", 0)), True)
        self.assertIs(is_formula(("call", "abcdefghijkl", ("abcdefghijkl",))), True)

    def test_outputs(self):
        for output in range(10):
            self.assertIs(is_formula(("word", "T", "x", output)), True, output)
        self.none_of_these([
            ("word", "T", "x", output) for output in [10, -1, 100, True, False, None, "3", 3.0, (3,)]
        ])

    def test_names_of_calls(self):
        self.assertIs(is_formula(("call", "f", ("x",))), True)
        self.assertIs(is_formula(("call", "f", ("f", "x", "x", "y", "z", "u", "v", "w"))), True)
        self.none_of_these([("call", "f", names) for names in [(), [], ["x"], "x", "xy", None, {"x": 1}, {"x"}]])

    def test_the_nodes(self):
        self.assertIs(is_formula(wide(199)), True)
        self.assertIs(is_formula(("not", wide(199))), True)
        self.assertIs(is_formula(wide(201)), False)
        self.assertIs(is_formula(("all", "x", ("not", wide(199)))), False)

    def test_the_levels(self):
        self.assertIs(is_formula(nested(30)), True)
        self.assertIs(is_formula(nested(31)), False)
        for joint in JOINTS:
            self.assertIs(is_formula((joint, POWER, nested(29))), True)
            self.assertIs(is_formula((joint, POWER, nested(30))), False)
            self.assertIs(is_formula((joint, nested(29), POWER)), True)
            self.assertIs(is_formula((joint, nested(30), POWER)), False)
        for quantifier in QUANTIFIERS:
            self.assertIs(is_formula((quantifier, "x", nested(29))), True)
            self.assertIs(is_formula((quantifier, "x", nested(30))), False)

    def test_values_that_are_far_too_deep_or_large(self):
        shared = POWER
        for _ in range(60):
            shared = ("and", shared, shared)
        self.assertIs(is_formula(shared), False)
        self.assertIs(is_formula(nested(20000)), False)

    def test_a_wrong_part_deep_inside(self):
        formula = ("pow", "X")
        for _ in range(10):
            formula = ("imp", POWER, ("all", "y", formula))
        self.assertIs(is_formula(formula), False)


class Counts(unittest.TestCase):
    def test_one_node(self):
        for formula in [POWER, EQUATION, INEQUALITY, WORD, CALL]:
            self.assertEqual((node_count(formula), levels(formula)), (1, 1))

    def test_nodes_above_others(self):
        self.assertEqual((node_count(("not", EQUATION)), levels(("not", EQUATION))), (2, 2))
        for quantifier in QUANTIFIERS:
            formula = (quantifier, "x", EQUATION)
            self.assertEqual((node_count(formula), levels(formula)), (2, 2))
        for joint in JOINTS:
            formula = (joint, EQUATION, ("not", WORD))
            self.assertEqual((node_count(formula), levels(formula)), (4, 3))
            formula = (joint, ("some", "x", ("not", WORD)), EQUATION)
            self.assertEqual((node_count(formula), levels(formula)), (5, 4))

    def test_around_the_limits(self):
        for count in [30, 31, 200, 201, 1500]:
            self.assertEqual((node_count(nested(count)), levels(nested(count))), (count, count))
        for count in [199, 201]:
            self.assertEqual(node_count(wide(count)), count)


class Names(unittest.TestCase):
    def both(self, formula, free, names):
        self.assertEqual(free_names(formula), free)
        self.assertEqual(all_names(formula), names)

    def test_formulas_without_parts(self):
        self.both(POWER, ["x"], ["x"])
        self.both(EQUATION, ["x", "y"], ["x", "y"])
        self.both(("le", term(("b", 1), ("a", 1))), ["a", "b"], ["a", "b"])
        self.both(("eq", term(constant=3)), [], [])
        self.both(WORD, ["z"], ["z"])
        self.both(CALL, ["w", "x"], ["w", "x"])

    def test_the_name_of_a_definition_is_none(self):
        self.both(("call", "f", ("x",)), ["x"], ["x"])
        self.both(("call", "f", ("g", "f", "a")), ["a", "f", "g"], ["a", "f", "g"])

    def test_joined_formulas(self):
        self.both(("not", EQUATION), ["x", "y"], ["x", "y"])
        for joint in JOINTS:
            self.both((joint, WORD, EQUATION), ["x", "y", "z"], ["x", "y", "z"])
            self.both((joint, EQUATION, CALL), ["w", "x", "y"], ["w", "x", "y"])

    def test_names_ascend(self):
        formula = ("call", "f", ("z", "x2", "x10", "b", "x", "a1", "aa"))
        self.both(formula, ["a1", "aa", "b", "x", "x10", "x2", "z"], ["a1", "aa", "b", "x", "x10", "x2", "z"])

    def test_quantifiers(self):
        for quantifier in QUANTIFIERS:
            self.both((quantifier, "x", EQUATION), ["y"], ["x", "y"])
            self.both((quantifier, "y", (quantifier, "x", EQUATION)), [], ["x", "y"])
            self.both((quantifier, "a", EQUATION), ["x", "y"], ["a", "x", "y"])
            self.both((quantifier, "a", ("eq", term())), [], ["a"])
            self.both((quantifier, "x", (quantifier, "x", POWER)), [], ["x"])
            self.both((quantifier, "w", CALL), ["x"], ["w", "x"])
            self.both((quantifier, "z", WORD), [], ["z"])

    def test_a_name_that_is_bound_and_free(self):
        for quantifier in QUANTIFIERS:
            bound = (quantifier, "x", EQUATION)
            for joint in JOINTS:
                self.both((joint, bound, POWER), ["x", "y"], ["x", "y"])
                self.both((joint, POWER, bound), ["x", "y"], ["x", "y"])
                self.both((joint, bound, WORD), ["y", "z"], ["x", "y", "z"])

    def test_a_name_bound_outside_of_another_quantifier_of_it(self):
        formula = ("some", "x", ("and", ("all", "x", EQUATION), POWER))
        self.both(formula, ["y"], ["x", "y"])


def holds(formula, numbers):
    """Tell whether a formula holds if the numbers of quantifiers are those from 0 to 3."""
    kind = formula[0]
    if kind in ("some", "all"):
        found = [holds(formula[2], {**numbers, formula[1]: number}) for number in range(4)]
        return any(found) if kind == "some" else all(found)
    if kind in JOINTS:
        one, two = holds(formula[1], numbers), holds(formula[2], numbers)
        return {"and": one and two, "or": one or two, "imp": not one or two, "iff": one == two}[kind]
    if kind == "not":
        return not holds(formula[1], numbers)
    if kind == "eq":
        return value(formula[1], numbers) == 0
    if kind == "le":
        return value(formula[1], numbers) <= 0
    if kind == "pow":
        return numbers[formula[1]] in (1, 2)
    if kind == "word":
        return numbers[formula[2]] % 3 == formula[3]
    return [numbers[name] for name in formula[2]] == sorted([numbers[name] for name in formula[2]])


class Rename(unittest.TestCase):
    def test_the_example(self):
        self.assertEqual(
            rename(("some", "y", ("eq", ((("x", 1), ("y", -2)), 0))), {"x": "y"}),
            ("some", "v0", ("eq", ((("v0", -2), ("y", 1)), 0))),
        )

    def test_each_kind_without_parts(self):
        names = {"x": "y", "z": "a", "w": "x"}
        self.assertEqual(rename(POWER, names), ("pow", "y"))
        self.assertEqual(rename(EQUATION, names), ("eq", ((("y", -1),), 0)))
        self.assertEqual(rename(("le", EQUATION[1]), {"x": "z"}), ("le", ((("y", -2), ("z", 1)), 0)))
        self.assertEqual(rename(WORD, names), ("word", "T", "a", 3))
        self.assertEqual(rename(CALL, names), ("call", "f", ("y", "x", "y")))

    def test_words_and_definitions_are_not_renamed(self):
        self.assertEqual(rename(("call", "f", ("f", "x")), {"f": "g"}), ("call", "f", ("g", "x")))
        self.assertEqual(rename(("word", "T", "t", 1), {"T": "U", "t": "u"}), ("word", "T", "u", 1))

    def test_formulas_with_parts(self):
        self.assertEqual(rename(("not", POWER), {"x": "y"}), ("not", ("pow", "y")))
        for joint in JOINTS:
            self.assertEqual(
                rename((joint, POWER, WORD), {"x": "y", "z": "x"}), (joint, ("pow", "y"), ("word", "T", "x", 3))
            )
        for quantifier in QUANTIFIERS:
            self.assertEqual(rename((quantifier, "a", POWER), {"x": "y"}), (quantifier, "a", ("pow", "y")))

    def test_nothing_to_rename(self):
        for formula in EACH_KIND:
            self.assertEqual(rename(formula, {}), formula)
            self.assertEqual(rename(formula, {"q": "r"}), formula)
            self.assertEqual(rename(formula, {"x": "x"}), formula)

    def test_several_names_at_once(self):
        self.assertEqual(rename(equal("x", "y"), {"x": "y", "y": "x"}), ("eq", ((("x", -1), ("y", 1)), 0)))
        self.assertEqual(
            rename(("and", ("pow", "a"), ("call", "f", ("a", "b", "c"))), {"a": "b", "b": "c", "c": "a"}),
            ("and", ("pow", "b"), ("call", "f", ("b", "c", "a"))),
        )

    def test_names_that_become_equal(self):
        self.assertEqual(rename(EQUATION, {"y": "x"}), ("eq", ((("x", -1),), 0)))
        self.assertEqual(rename(equal("x", "y"), {"y": "x"}), ("eq", ((), 0)))
        self.assertEqual(rename(equal("x", "y"), {"x": "z", "y": "z"}), ("eq", ((), 0)))
        self.assertEqual(rename(("call", "f", ("x", "y")), {"x": "y"}), ("call", "f", ("y", "y")))

    def test_bound_names_stay(self):
        for quantifier in QUANTIFIERS:
            formula = (quantifier, "x", EQUATION)
            self.assertEqual(rename(formula, {"x": "z"}), formula)
            self.assertEqual(rename(formula, {"x": "y"}), formula)
            renamed = (quantifier, "x", ("eq", term(("x", 1), ("b", -2))))
            self.assertEqual(rename(formula, {"x": "a", "y": "b"}), renamed)

    def test_a_name_that_is_bound_and_free(self):
        self.assertEqual(
            rename(("or", ("all", "x", POWER), POWER), {"x": "z"}), ("or", ("all", "x", POWER), ("pow", "z"))
        )
        self.assertEqual(
            rename(("or", ("all", "x", EQUATION), POWER), {"x": "z", "y": "x"}),
            ("or", ("all", "v0", ("eq", term(("v0", 1), ("x", -2)))), ("pow", "z")),
        )

    def test_a_bound_name_that_is_a_new_name(self):
        for quantifier in QUANTIFIERS:
            self.assertEqual(
                rename((quantifier, "y", ("and", POWER, WORD)), {"x": "y"}),
                (quantifier, "v0", ("and", ("pow", "y"), WORD)),
            )

    def test_only_new_names_of_names_that_are_free_in_it_count(self):
        formula = ("some", "y", equal("x", "y"))
        self.assertEqual(rename(formula, {"z": "y"}), formula)
        self.assertEqual(rename(formula, {"y": "y", "z": "y"}), formula)
        self.assertEqual(rename(("and", formula, ("pow", "z")), {"z": "y"}), ("and", formula, ("pow", "y")))
        self.assertEqual(rename(formula, {"z": "y", "x": "a"}), ("some", "y", equal("a", "y")))
        closed = ("some", "y", ("some", "x", equal("x", "y")))
        self.assertEqual(rename(closed, {"x": "y"}), closed)

    def test_the_first_that_is_no_name_of_the_formula(self):
        self.assertEqual(
            rename(("some", "y", ("call", "f", ("x", "y", "v0"))), {"x": "y"}),
            ("some", "v1", ("call", "f", ("y", "v1", "v0"))),
        )
        self.assertEqual(
            rename(("some", "y", ("call", "f", ("x", "y", "v1"))), {"x": "y"}),
            ("some", "v0", ("call", "f", ("y", "v0", "v1"))),
        )
        self.assertEqual(
            rename(("some", "y", ("call", "f", ("x", "y", "v0", "v1"))), {"x": "y"}),
            ("some", "v2", ("call", "f", ("y", "v2", "v0", "v1"))),
        )

    def test_bound_names_of_the_formula_are_passed_over(self):
        self.assertEqual(
            rename(("some", "y", ("and", equal("x", "y"), ("all", "v0", ("pow", "v0")))), {"x": "y"}),
            ("some", "v1", ("and", equal("y", "v1"), ("all", "v0", ("pow", "v0")))),
        )
        self.assertEqual(
            rename(("some", "y", ("all", "v0", equal("x", "y"))), {"x": "y"}),
            ("some", "v1", ("all", "v0", equal("y", "v1"))),
        )
        self.assertEqual(rename(("some", "v0", POWER), {"x": "v0"}), ("some", "v1", ("pow", "v0")))

    def test_new_names_are_passed_over(self):
        formula = ("some", "y", ("call", "f", ("x", "y", "z")))
        self.assertEqual(
            rename(formula, {"x": "y", "z": "v0"}), ("some", "v1", ("call", "f", ("y", "v1", "v0")))
        )
        self.assertEqual(
            rename(formula, {"x": "y", "z": "v1"}), ("some", "v0", ("call", "f", ("y", "v0", "v1")))
        )
        self.assertEqual(
            rename(formula, {"x": "y", "w": "v0"}), ("some", "v0", ("call", "f", ("y", "v0", "z")))
        )

    def test_a_free_name_that_goes_away_is_still_passed_over(self):
        self.assertEqual(
            rename(("some", "y", ("call", "f", ("v0", "y"))), {"v0": "y"}), ("some", "v1", ("call", "f", ("y", "v1")))
        )

    def test_a_definition_does_not_take_a_name(self):
        self.assertEqual(
            rename(("some", "y", ("call", "v0", ("x", "y"))), {"x": "y"}), ("some", "v0", ("call", "v0", ("y", "v0")))
        )

    def test_a_key_that_is_the_name_of_the_replacement(self):
        self.assertEqual(
            rename(("some", "y", equal("x", "y")), {"x": "y", "v0": "z"}), ("some", "v0", equal("y", "v0"))
        )

    def test_quantifiers_in_quantifiers(self):
        self.assertEqual(
            rename(("some", "y", ("all", "z", ("call", "f", ("x", "y", "z", "u")))), {"x": "y", "u": "z"}),
            ("some", "v0", ("all", "v1", ("call", "f", ("y", "v0", "v1", "z")))),
        )
        self.assertEqual(
            rename(("some", "y", ("and", equal("x", "y"), ("some", "y", equal("x", "y")))), {"x": "y"}),
            ("some", "v0", ("and", equal("y", "v0"), ("some", "v0", equal("y", "v0")))),
        )
        self.assertEqual(
            rename(("some", "y", ("some", "y", equal("x", "y"))), {"x": "y"}),
            ("some", "v0", ("some", "v0", equal("y", "v0"))),
        )

    def test_the_bound_name_is_replaced_first(self):
        inner = ("some", "z", ("call", "f", ("u", "v0", "z")))
        self.assertEqual(
            rename(("some", "v0", ("and", equal("x", "v0"), inner)), {"x": "v0", "u": "z"}),
            ("some", "v1", ("and", equal("v0", "v1"), ("some", "v0", ("call", "f", ("z", "v1", "v0"))))),
        )

    def test_terms_that_are_out_of_range(self):
        large = ("le", term(("x", 200), ("y", 56)))
        for formula in [large, ("not", large), ("iff", POWER, large), ("imp", large, POWER), ("some", "z", large)]:
            for names in [{"x": "y"}, {"y": "x"}, {"x": "z", "y": "z"}]:
                with self.assertRaises(Oversized) as caught:
                    rename(formula, names)
                self.assertEqual(caught.exception.limit, "term")
        self.assertEqual(rename(("all", "x", large), {"x": "y"}), ("all", "x", large))
        self.assertEqual(rename(("le", term(("x", 200), ("y", 55))), {"x": "y"}), ("le", term(("y", 255))))

    def test_a_bound_name_does_not_join_a_new_name(self):
        self.assertEqual(
            rename(("some", "y", ("le", term(("x", 200), ("y", 56)))), {"x": "y"}),
            ("some", "v0", ("le", term(("y", 200), ("v0", 56)))),
        )

    def test_the_meaning_stays(self):
        formulas = [
            ("some", "y", ("and", equal("x", "y"), ("some", "z", ("le", term(("y", 1), ("z", -1), ("u", 1)))))),
            ("all", "x", ("imp", equal("x", "u"), ("some", "u", ("call", "f", ("x", "u", "y"))))),
            ("iff", ("all", "z", ("word", "T", "z", 1)), ("some", "y", ("or", ("pow", "y"), equal("y", "z")))),
            ("some", "v0", ("and", ("not", equal("v0", "x")), ("all", "v1", ("call", "f", ("x", "v1", "v0", "u"))))),
            ("not", ("some", "x", ("some", "y", ("and", ("call", "f", ("x", "y", "z", "u")), equal("x", "u"))))),
        ]
        targets = ["u", "x", "y", "z", "v0", "v1"]
        places = ["u", "x", "y", "z"]
        for formula in formulas:
            for code in range(len(targets) ** 3):
                names = {place: targets[code // 6 ** k % 6] for k, place in enumerate(places[:3])}
                renamed = rename(formula, names)
                for numbers in [(0, 1, 2, 3, 1, 2), (1, 1, 0, 2, 3, 0), (3, 2, 1, 0, 0, 1)]:
                    new = dict(zip(targets, numbers))
                    old = {place: new[names.get(place, place)] for place in targets}
                    self.assertEqual(holds(renamed, new), holds(formula, old), (formula, names))
                self.assertEqual(free_names(renamed), sorted({names.get(name, name) for name in free_names(formula)}))

    def test_the_arguments_stay_as_they_were(self):
        formula = ("some", "y", ("and", EQUATION, ("or", CALL, ("not", WORD))))
        names = {"x": "y", "z": "v0", "q": "r"}
        before = copy.deepcopy((formula, names))
        rename(formula, names)
        free_names(formula)
        all_names(formula)
        node_count(formula)
        levels(formula)
        is_formula(formula)
        show_formula(formula)
        self.assertEqual((formula, names), before)
        self.assertEqual(list(names), ["x", "z", "q"])


class ShowFormula(unittest.TestCase):
    def test_each_form(self):
        cases = [
            (EQUATION, "x - 2 * y = 0"),
            (INEQUALITY, "y - 3 <= 0"),
            (("eq", term()), "0 = 0"),
            (("le", term(constant=-7)), "-7 <= 0"),
            (POWER, "pow(x)"),
            (WORD, "T[z] = 3"),
            (("call", "f", ("x",)), "f(x)"),
            (("call", "name", ("x", "y")), "name(x, y)"),
            (CALL, "f(x, w, x)"),
            (("and", POWER, WORD), "(pow(x) & T[z] = 3)"),
            (("or", POWER, WORD), "(pow(x) | T[z] = 3)"),
            (("imp", POWER, WORD), "(pow(x) => T[z] = 3)"),
            (("iff", POWER, WORD), "(pow(x) <=> T[z] = 3)"),
            (("some", "x", POWER), "(some x: pow(x))"),
            (("all", "x", EQUATION), "(all x: x - 2 * y = 0)"),
        ]
        for formula, text in cases:
            self.assertEqual(show_formula(formula), text)

    def test_what_stands_behind_a_tilde(self):
        cases = [
            (EQUATION, "~(x - 2 * y = 0)"),
            (INEQUALITY, "~(y - 3 <= 0)"),
            (WORD, "~(T[z] = 3)"),
            (POWER, "~pow(x)"),
            (CALL, "~f(x, w, x)"),
            (("not", POWER), "~~pow(x)"),
            (("not", EQUATION), "~~(x - 2 * y = 0)"),
            (("and", EQUATION, POWER), "~(x - 2 * y = 0 & pow(x))"),
            (("or", POWER, POWER), "~(pow(x) | pow(x))"),
            (("imp", POWER, POWER), "~(pow(x) => pow(x))"),
            (("iff", POWER, POWER), "~(pow(x) <=> pow(x))"),
            (("some", "x", POWER), "~(some x: pow(x))"),
            (("all", "x", WORD), "~(all x: T[z] = 3)"),
        ]
        for formula, text in cases:
            self.assertEqual(show_formula(("not", formula)), text)

    def test_forms_in_forms(self):
        self.assertEqual(
            show_formula(("all", "x", ("imp", ("not", POWER), ("and", ("some", "y", EQUATION), ("not", WORD))))),
            "(all x: (~pow(x) => ((some y: x - 2 * y = 0) & ~(T[z] = 3))))",
        )
        self.assertEqual(
            show_formula(("or", ("or", POWER, POWER), ("or", POWER, POWER))), "((pow(x) | pow(x)) | (pow(x) | pow(x)))"
        )


if __name__ == "__main__":
    unittest.main()
