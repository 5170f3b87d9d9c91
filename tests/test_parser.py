"""Tests of points 5.1, 5.2 and 5.3, and of what show_formula and show_term write."""

import itertools
import random
import unittest

from digitwise.book import Book
from digitwise.errors import Clashing, Malformed, Misused, Oversized, Refused, Unknown
from digitwise.formulas import is_formula, levels, node_count, show_formula
from digitwise.lexer import tokens
from digitwise.parser import parse_book, parse_formula
from digitwise.terms import is_term, linear, show_term

JOINTS = {"and": "&", "or": "|", "imp": "=>", "iff": "<=>"}
QUANTIFIERS = ["some", "all"]


def eq(*pairs, constant=0):
    return ("eq", linear(list(pairs), constant))


def le(*pairs, constant=0):
    return ("le", linear(list(pairs), constant))


def power(name):
    return ("pow", name)


A, B, C, D, E = [power(name) for name in "abcde"]
TEXTS = {A: "pow(a)", B: "pow(b)", C: "pow(c)", D: "pow(d)", E: "pow(e)"}

# The grammar of point 5.1: for each symbol its rows.
GRAMMAR = {
    "formula": [["quantified"], ["implied"], ["implied", "<=>", "implied"]],
    "quantified": [["some", "names", ":", "formula"], ["all", "names", ":", "formula"]],
    "names": [["NAME"], ["NAME", ",", "names"]],
    "implied": [["either"], ["either", "=>", "either"]],
    "either": [["both"], ["both", "|", "either"]],
    "both": [["unit"], ["unit", "&", "both"]],
    "unit": [
        ["~", "unit"], ["(", "formula", ")"], ["quantified"], ["pow", "(", "NAME", ")"], ["NAME", "(", "names", ")"],
        ["WORD", "[", "NAME", "]", "equal", "OUTPUT"], ["term", "compared", "term"],
    ],
    "equal": [["="], ["!="]],
    "compared": [["="], ["!="], ["<"], ["<="], [">"], [">="]],
    "term": [["parts"], ["-", "parts"]],
    "parts": [["part"], ["part", "+", "parts"], ["part", "-", "parts"]],
    "part": [["NUMBER"], ["NUMBER", "*", "NAME"], ["NAME"]],
    "book": [[], ["definition", "book"], ["word", "book"]],
    "definition": [
        ["def", "NAME", "(", ")", ":", "formula", ";"], ["def", "NAME", "(", "names", ")", ":", "formula", ";"],
    ],
    "word": [["told", "WORD", "{", "states", "}", ";"]],
    "states": [[], ["state", "states"]],
    "state": [["INDEX", ":", "OUTPUT", "->", "NUMBER", "NUMBER", ";"]],
}


class Grammar:
    """Tells by trying out all rows which token is the first one that does not fit."""

    def __init__(self, text):
        self.tokens = tokens(text)
        self.length = len(text)
        self.furthest = 0
        self.known = {}

    def wrong(self, symbol):
        """Return the index of the first token that does not fit, or None if the text is the symbol's."""
        if len(self.tokens) in self.ends(symbol, 0):
            return None
        return self.tokens[self.furthest][2] if self.furthest < len(self.tokens) else self.length

    def ends(self, symbol, start):
        if (symbol, start) not in self.known:
            if symbol in GRAMMAR:
                self.known[symbol, start] = {end for row in GRAMMAR[symbol] for end in self.row_ends(row, start)}
            else:
                self.known[symbol, start] = self.token_ends(symbol, start)
        return self.known[symbol, start]

    def row_ends(self, row, start):
        ends = {start}
        for symbol in row:
            ends = {end for place in ends for end in self.ends(symbol, place)}
        return ends

    def token_ends(self, symbol, start):
        self.furthest = max(self.furthest, start)
        if start == len(self.tokens):
            return set()
        kind, value, _ = self.tokens[start]
        fits = {
            "INDEX": kind == "number" and value == self.state_at(start),
            "NAME": kind == "name", "WORD": kind == "word", "NUMBER": kind == "number",
            "OUTPUT": kind == "number" and value in range(10),
        }
        return {start + 1} if fits.get(symbol, value == symbol) else set()

    def state_at(self, start):
        """Return the index of the state that begins at a token; each one before it has seven tokens."""
        braces = [at for at, token in enumerate(self.tokens[:start]) if token[1] == "{"]
        return (start - max(braces) - 1) // 7 if braces else None


class ParserTests(unittest.TestCase):
    def parsed(self, text, formula):
        with self.subTest(text=text):
            self.assertEqual(parse_formula(text), formula)
            self.assertIs(is_formula(formula), True)

    def refused(self, error, field, function, text):
        with self.subTest(text=text):
            with self.assertRaises(Refused) as caught:
                function(text)
            self.assertEqual((type(caught.exception), *vars(caught.exception).values()), (error, field))

    def malformed(self, text, at):
        self.refused(Malformed, at, parse_formula, text)

    def oversized(self, text, limit):
        self.refused(Oversized, limit, parse_formula, text)


class Comparisons(ParserTests):
    def test_the_example(self):
        self.parsed(
            "some y: x = 2 * y & ~pow(y)",
            ("some", "y", ("and", ("eq", ((("x", 1), ("y", -2)), 0)), ("not", ("pow", "y")))),
        )

    def test_each_sign(self):
        self.parsed("x = y + 2", eq(("x", 1), ("y", -1), constant=-2))
        self.parsed("x != y + 2", ("not", eq(("x", 1), ("y", -1), constant=-2)))
        self.parsed("x < y + 2", le(("x", 1), ("y", -1), constant=-1))
        self.parsed("x <= y + 2", le(("x", 1), ("y", -1), constant=-2))
        self.parsed("x > y + 2", le(("x", -1), ("y", 1), constant=3))
        self.parsed("x >= y + 2", le(("x", -1), ("y", 1), constant=2))

    def test_terms(self):
        self.parsed("x = 0", eq(("x", 1)))
        self.parsed("0 = x", eq(("x", -1)))
        self.parsed("-x = 0", eq(("x", -1)))
        self.parsed("- 3 = 0", eq(constant=-3))
        self.parsed("-3 * x + 2 = 1", eq(("x", -3), constant=1))
        self.parsed("3*x-4*y+5-z-1=0", eq(("x", 3), ("y", -4), ("z", -1), constant=4))
        self.parsed("0 = -x - 2 * y - 7", eq(("x", 1), ("y", 2), constant=7))
        self.parsed("1 * x = 255", eq(("x", 1), constant=-255))
        self.parsed("2 * x = -5", eq(("x", 2), constant=5))

    def test_names_are_added_up_and_left_out(self):
        self.parsed("x + y + x = x", eq(("x", 1), ("y", 1)))
        self.parsed("x = x", eq())
        self.parsed("x < x", le(constant=1))
        self.parsed("0 * x = 0", eq())
        self.parsed("z + a <= 0", le(("a", 1), ("z", 1)))

    def test_comparisons_do_not_need_spaces(self):
        self.parsed("x<=-y", le(("x", 1), ("y", 1)))
        self.parsed("x>=-y", le(("x", -1), ("y", -1)))
        self.parsed("\n x\n<\ny ", le(("x", 1), ("y", -1), constant=1))

    def test_terms_that_do_not_fit(self):
        self.malformed("x = - - y", 6)
        self.malformed("x = + y", 4)
        self.malformed("+x = y", 0)
        self.malformed("x = y +", 7)
        self.malformed("x = y * 2", 6)
        self.malformed("x = 2 * 3", 8)
        self.malformed("x = 2 * -y", 8)
        self.malformed("x = 2 y", 6)
        self.malformed("x = (y)", 4)
        self.malformed("2 * (x) = 1", 4)
        self.malformed("x = y = z", 6)
        self.malformed("x < y < z", 6)
        self.malformed("x", 1)
        self.malformed("x   ", 4)
        self.malformed("3 &", 2)
        self.malformed("x : 1", 2)
        self.malformed("x -> 1", 2)
        self.malformed("x <=> 1", 2)
        self.malformed("x = some", 4)
        self.malformed("x = T", 4)
        self.malformed("x = 3 * pow", 8)


class Units(ParserTests):
    def test_powers(self):
        self.parsed("pow(x)", power("x"))
        self.parsed("pow ( x1 )", power("x1"))
        for text, at in [
            ("pow", 3), ("pow x", 4), ("pow(", 4), ("pow()", 4), ("pow(x", 5), ("pow(x, y)", 5), ("pow(3)", 4),
            ("pow(T)", 4), ("pow(some)", 4), ("pow(x) = 1", 7), ("pow[x]", 3), ("pow(x))", 6),
        ]:
            self.malformed(text, at)

    def test_words(self):
        for output in range(10):
            self.parsed(f"T[x] = {output}", ("word", "T", "x", output))
            self.parsed(f"T[x] != {output}", ("not", ("word", "T", "x", output)))
        self.parsed("T1[x]=0&U[y]=9", ("and", ("word", "T1", "x", 0), ("word", "U", "y", 9)))
        for text, at in [
            ("T", 1), ("T(x)", 1), ("T[", 2), ("T[]", 2), ("T[3] = 1", 2), ("T[U] = 1", 2), ("T[x", 3), ("T[x)", 3),
            ("T[x]", 4), ("T[x] < 1", 5), ("T[x] <= 1", 5), ("T[x] =", 6), ("T[x] = y", 7), ("T[x] = -1", 7),
            ("T[x] = 1 + 1", 9), ("T[x, y] = 1", 3), ("1 = T[x]", 4), ("T = 1", 2), ("T[x] = U[x]", 7),
        ]:
            self.malformed(text, at)

    def test_outputs_that_are_too_large(self):
        for number in [10, 11, 99, 100, 255]:
            self.malformed(f"T[x] = {number}", 7)
            self.malformed(f"T[x] != {number}", 8)
            self.malformed(f"x = 0 & (T[x]={number} x", 14)

    def test_calls(self):
        self.parsed("f(x)", ("call", "f", ("x",)))
        self.parsed("name1 ( x , y,x )", ("call", "name1", ("x", "y", "x")))
        self.parsed("x(x)", ("call", "x", ("x",)))
        self.parsed("f(x) & x = 1", ("and", ("call", "f", ("x",)), eq(("x", 1), constant=-1)))
        for text, at in [
            ("f(", 2), ("f()", 2), ("f(x", 3), ("f(x,", 4), ("f(x,)", 4), ("f(,x)", 2), ("f(x y)", 4), ("f(1)", 2),
            ("f(T)", 2), ("f(g(x))", 3), ("f(x) = 1", 5), ("f(x) + 1 = 1", 5), ("f[x]", 1), ("all(x)", 3),
            ("f((x))", 2), ("f(x + y)", 4), ("f(some)", 2),
        ]:
            self.malformed(text, at)

    def test_a_name_in_a_term_is_no_call(self):
        self.malformed("1 + f(x) = 1", 5)
        self.malformed("-f(x) = 1", 2)
        self.malformed("x = f(x)", 5)
        self.malformed("2 * f(x) = 1", 5)

    def test_negations(self):
        self.parsed("~pow(a)", ("not", A))
        self.parsed("~~pow(a)", ("not", ("not", A)))
        self.parsed("~x = 0", ("not", eq(("x", 1))))
        self.parsed("~x != 0", ("not", ("not", eq(("x", 1)))))
        self.parsed("~T[x] = 3", ("not", ("word", "T", "x", 3)))
        self.parsed("~(pow(a) & pow(b))", ("not", ("and", A, B)))
        self.parsed("~pow(a) & pow(b)", ("and", ("not", A), B))
        self.parsed("~f(x) => pow(b)", ("imp", ("not", ("call", "f", ("x",))), B))
        for text, at in [("~", 1), ("~)", 1), ("~&", 1), ("pow(a) ~ pow(b)", 7), ("~()", 2), ("pow(a)~", 6)]:
            self.malformed(text, at)

    def test_parentheses(self):
        self.parsed("(pow(a))", A)
        self.parsed("(((x = 1)))", eq(("x", 1), constant=-1))
        self.parsed("(some x: pow(a)) & pow(b)", ("and", ("some", "x", A), B))
        self.parsed("(pow(a) <=> pow(b)) <=> pow(c)", ("iff", ("iff", A, B), C))
        for text, at in [
            ("(", 1), ("()", 1), (")", 0), ("(pow(a)", 7), ("(pow(a)))", 8), ("(x) = 1", 2), ("(x = 1) + 1", 8),
            ("(pow(a)]", 7), ("[pow(a)]", 0), ("{pow(a)}", 0), ("(pow(a),pow(b))", 7),
        ]:
            self.malformed(text, at)

    def test_nothing(self):
        self.malformed("", 0)
        self.malformed("   ", 3)
        self.malformed("\n\n", 2)

    def test_what_no_formula_begins_with(self):
        for sign in ["<=>", "=>", "->", "<=", ">=", "!=", "=", "<", ">", "+", "*", "&", "|", ")", "[", "]", "{", "}"]:
            self.malformed(f" {sign} x = 1", 1)
        for text in [", x = 1", ": x = 1", "; x = 1", "def f(x): pow(x);", "told T { };"]:
            self.malformed(text, 0)


class Joints(ParserTests):
    def test_each_joint(self):
        for kind, sign in JOINTS.items():
            self.parsed(f"pow(a) {sign} pow(b)", (kind, A, B))
            self.parsed(f"pow(a){sign}pow(b)", (kind, A, B))

    def test_and_and_or_associate_to_the_left(self):
        for kind, sign in [("and", "&"), ("or", "|")]:
            self.parsed(f"pow(a) {sign} pow(b) {sign} pow(c)", (kind, (kind, A, B), C))
            text = f" {sign} ".join(["pow(a)", "pow(b)", "pow(c)", "pow(d)"])
            self.parsed(text, (kind, (kind, (kind, A, B), C), D))
            self.parsed(f"pow(a) {sign} (pow(b) {sign} pow(c))", (kind, A, (kind, B, C)))

    def test_the_others_are_not_repeated(self):
        self.malformed("pow(a) => pow(b) => pow(c)", 17)
        self.malformed("pow(a) <=> pow(b) <=> pow(c)", 18)
        self.malformed("pow(a) => pow(b) <=> pow(c) => pow(d) => pow(e)", 38)
        self.malformed("pow(a) => pow(b) <=> pow(c) => pow(d) <=> pow(e)", 38)

    def test_which_joint_binds_more(self):
        kinds = ["and", "or", "imp", "iff"]
        for first, second in itertools.product(kinds, repeat=2):
            text = f"pow(a) {JOINTS[first]} pow(b) {JOINTS[second]} pow(c)"
            if kinds.index(first) < kinds.index(second) or first == second and first in ("and", "or"):
                self.parsed(text, (second, (first, A, B), C))
            elif first != second:
                self.parsed(text, (first, A, (second, B, C)))

    def test_all_of_them(self):
        self.parsed(
            "pow(a) <=> pow(b) => pow(c) | pow(d) & pow(e)", ("iff", A, ("imp", B, ("or", C, ("and", D, E)))),
        )
        self.parsed(
            "pow(a) & pow(b) | pow(c) => pow(d) <=> pow(e)", ("iff", ("imp", ("or", ("and", A, B), C), D), E),
        )
        self.parsed(
            "pow(a) => pow(b) <=> pow(c) => pow(d)", ("iff", ("imp", A, B), ("imp", C, D)),
        )

    def test_a_part_that_is_missing(self):
        for sign in JOINTS.values():
            self.malformed(f"pow(a) {sign}", 7 + len(sign))
            self.malformed(f"pow(a) {sign} )", 8 + len(sign))
            self.malformed(f"{sign} pow(a)", 0)
            for other in JOINTS.values():
                self.malformed(f"pow(a) {sign} {other} pow(b)", 8 + len(sign))

    def test_two_units_side_by_side(self):
        self.malformed("pow(a) pow(b)", 7)
        self.malformed("x = 1 y = 1", 6)
        self.malformed("x = 1 1", 6)
        self.malformed("T[x] = 1 (pow(a))", 9)
        self.malformed("pow(a) some x: pow(b)", 7)


class Quantifiers(ParserTests):
    def test_each_quantifier(self):
        for kind in QUANTIFIERS:
            self.parsed(f"{kind} x: pow(a)", (kind, "x", A))
            self.parsed(f"{kind} x, y: pow(a)", (kind, "x", (kind, "y", A)))
            self.parsed(f"{kind} x,y,z,x: pow(a)", (kind, "x", (kind, "y", (kind, "z", (kind, "x", A)))))
        self.parsed("some x: all y, z: pow(a)", ("some", "x", ("all", "y", ("all", "z", A))))

    def test_it_reaches_as_far_to_the_right_as_possible(self):
        for kind, sign in JOINTS.items():
            self.parsed(f"some x: pow(a) {sign} pow(b)", ("some", "x", (kind, A, B)))
            self.parsed(f"~all x: pow(a) {sign} pow(b)", ("not", ("all", "x", (kind, A, B))))
            self.parsed(f"(some x: pow(a)) {sign} pow(b)", (kind, ("some", "x", A), B))
            for other, second in JOINTS.items():
                self.parsed(
                    f"pow(a) {sign} some x: pow(b) {second} pow(c)", (kind, A, ("some", "x", (other, B, C))),
                )
                self.parsed(
                    f"pow(a) {sign} ~some x: pow(b) {second} pow(c)", (kind, A, ("not", ("some", "x", (other, B, C)))),
                )
        self.parsed("all x: pow(a) & some y: pow(b) | pow(c)", ("all", "x", ("and", A, ("some", "y", ("or", B, C)))))
        self.parsed(
            "pow(a) | pow(b) & all x: pow(c) => pow(d) <=> pow(e)",
            ("or", A, ("and", B, ("all", "x", ("iff", ("imp", C, D), E)))),
        )

    def test_what_it_cannot_reach_stands_behind_it(self):
        self.parsed("some x: pow(a) <=> pow(b) <=> pow(c)", ("iff", ("some", "x", ("iff", A, B)), C))
        self.parsed("some x: pow(a) => pow(b) => pow(c)", ("imp", ("some", "x", ("imp", A, B)), C))
        self.parsed("pow(e) & all x: pow(a) => pow(b) => pow(c)", ("imp", ("and", E, ("all", "x", ("imp", A, B))), C))
        self.parsed(
            "some x: some y: pow(a) => pow(b) => pow(c) => pow(d)",
            ("imp", ("some", "x", ("imp", ("some", "y", ("imp", A, B)), C)), D),
        )
        self.malformed("some x: pow(a) <=> pow(b) <=> pow(c) <=> pow(d)", 37)
        self.malformed("(some x: pow(a) => pow(b)) => pow(c) => pow(d)", 37)
        self.malformed("pow(e) => some x: pow(a) => pow(b) => pow(c)", 35)

    def test_quantifiers_that_do_not_fit(self):
        for kind in QUANTIFIERS:
            many = len(kind)
            for text, at in [
                ("", 0), (" x", 2), (" :", 1), (" x:", 3), (" x y: pow(a)", 3), (" x,: pow(a)", 3), (" , x: pow(a)", 1),
                (" x; pow(a)", 2), (" T: pow(a)", 1), (" 3: pow(a)", 1), (" (x): pow(a)", 1), (" x: )", 4),
                (" x: x", 5), (" some: pow(a)", 1), (" x: pow(a):", 10), ("(x)", 0),
            ]:
                self.malformed(kind + text, many + at)


class Terms(ParserTests):
    """Oversized("term")."""

    def test_the_bounds_of_the_two_terms(self):
        self.parsed("255 * x = 0", eq(("x", 255)))
        self.parsed("200 * x + 55 * x = 0", eq(("x", 255)))
        self.parsed("0 = 254 + 1", eq(constant=-255))
        self.parsed("-200 - 55 = 0", eq(constant=-255))
        self.parsed("255 * x + 255 - 255 * x = 0", eq(constant=255))
        for sign in ["=", "!=", "<", "<=", ">", ">="]:
            for text in ["200 * x + 56 * x", "255 + 1", "-255 - 1", "-255 * x - x", "255 * x + y + x"]:
                self.oversized(f"{text} {sign} 0", "term")
                self.oversized(f"0 {sign} {text}", "term")
                self.oversized(f"{text} {sign} {text}", "term")

    def test_the_bounds_of_the_difference(self):
        self.parsed("128 * x = -127 * x", eq(("x", 255)))
        self.parsed("127 * x >= -128 * x", le(("x", -255)))
        self.parsed("-200 = 55", eq(constant=-255))
        self.parsed("200 <= -55", le(constant=255))
        for sign in ["=", "!=", "<=", ">=", "<", ">"]:
            self.oversized(f"128 * x {sign} -128 * x", "term")
            self.oversized(f"-200 {sign} 56", "term")
            self.oversized(f"200 {sign} -56", "term")

    def test_the_bounds_of_the_difference_plus_1(self):
        self.parsed("254 < 0", le(constant=255))
        self.parsed("-255 < 0", le(constant=-254))
        self.parsed("0 < 255", le(constant=-254))
        self.parsed("0 > 254", le(constant=255))
        self.parsed("255 > 0", le(constant=-254))
        self.parsed("255 <= 0", le(constant=255))
        self.parsed("0 >= 255", le(constant=255))
        self.oversized("255 < 0", "term")
        self.oversized("0 > 255", "term")
        self.oversized("x + 200 < x - 55", "term")

    def test_the_difference_is_asked_before_1_is_added(self):
        self.oversized("-200 < 56", "term")
        self.oversized("56 > -200", "term")

    def test_only_when_the_last_token_has_been_read(self):
        self.malformed("255 + 1", 7)
        self.malformed("255 + 1 & pow(a)", 8)
        self.malformed("255 + 1 =", 9)
        self.malformed("255 + 1 = )", 10)
        self.malformed("255 + 1 = 1 +", 13)
        self.malformed("255 + 1 = 1 *", 13)
        self.malformed("255 + 1 = 1 * 2", 14)
        self.malformed("255 + 1 = 1 - & x", 14)
        self.malformed("255 + 1 : 1", 8)

    def test_before_what_stands_behind_it(self):
        for behind in [")", "1", "y", "* 2", "= 3", "&", "& )", "(", ";", "some", "pow(a)", "& 255 + 1", ": x"]:
            self.oversized(f"255 + 1 = x {behind}", "term")
            self.oversized(f"-1 = 255 + x {behind}", "term")
        self.oversized("(255 + 1 = x", "term")
        self.oversized("some x: 255 < 0 some", "term")
        self.malformed("x = 1 ) & 255 + 1 = x", 6)

    def test_the_sums_in_between_do_not_matter(self):
        self.parsed("255 + 255 - 255 = 0", eq(constant=255))
        self.parsed("255 * x + 255 * x + y - 255 * x = 0", eq(("x", 255), ("y", 1)))


def prefixes(count):
    """Return texts behind which a part stands so many levels deeper."""
    return [
        "(" * count, "~" * count, "some x: " * count, "all x: some y: " * (count // 2) + "~" * (count % 2),
        "(~" * (count // 2) + "(" * (count % 2), "(some x: " * (count // 2) + "~" * (count % 2),
    ]


class Depth(ParserTests):
    """Oversized("depth")."""

    def test_the_bound(self):
        for before in prefixes(29):
            text = f"{before}pow(a){')' * before.count('(')}"
            with self.subTest(text=text):
                self.assertEqual(levels(parse_formula(text)), 30 - before.count("("))

    def test_one_beyond_it(self):
        for before in prefixes(30):
            self.oversized(f"{before}pow(a){')' * before.count('(')}", "depth")

    def test_before_the_token_is_looked_at(self):
        for before in prefixes(30):
            for rest in ["", ")", "&", "255 + 1 = 0", "T[x] = 10", "some", ": :", "((", "~", "  \n"]:
                self.oversized(before + rest, "depth")

    def test_what_does_not_fit_earlier_is_refused_first(self):
        for before in prefixes(29):
            self.malformed(f"{before})", len(before))
            self.malformed(before, len(before))
            self.oversized(f"{before}(", "depth")
            self.oversized(f"{before}~", "depth")
            self.oversized(f"{before}some x:", "depth")
            self.malformed(f"{before}some x", len(before) + 6)
            self.malformed(f"{before}pow(x", len(before) + 5)

    def test_a_term_that_is_too_large_earlier_is_refused_first(self):
        self.oversized("255 + 1 = 0 & " + "(" * 40, "term")
        self.oversized("0 = 0 & " + "(" * 40 + "255 + 1 = 0", "depth")

    def test_joined_parts_are_not_deeper(self):
        text = "(" * 29 + "x = 0 & x = 0 => x = 0 <=> x = 0 | x = 0" + ")" * 29
        self.assertEqual(levels(parse_formula(text)), 4)
        self.parsed("(" * 28 + "~x = 0 & ~x = 0" + ")" * 28, ("and", ("not", eq(("x", 1))), ("not", eq(("x", 1)))))

    def test_the_levels_go_back_behind_a_part(self):
        deep = "(" * 29 + "x = 0" + ")" * 29
        self.assertEqual(node_count(parse_formula(f"{deep} & {deep} => {deep}")), 5)
        self.oversized(f"{deep} & ({deep})", "depth")

    def test_several_names_of_a_quantifier_are_one_level_of_the_text(self):
        names = "some a, b, c: "
        formula = ("some", "a", ("some", "b", ("some", "c", D)))
        self.parsed(names + "(" * 28 + "pow(d)" + ")" * 28, formula)
        self.oversized(names + "(" * 29 + "pow(d)" + ")" * 29, "depth")

    def test_the_longest_texts(self):
        for text in ["(" * 4000, "~" * 4000, "some x:" * 571]:
            self.oversized(text, "depth")


def wide(count):
    """Return a formula with this odd number of nodes and as few levels as possible."""
    if count == 1:
        return A
    half = (count - 1) // 2
    one = half if half % 2 == 1 else half - 1
    return ("and", wide(one), wide(count - 1 - one))


class Nodes(ParserTests):
    """Oversized("nodes")."""

    def test_the_bound_of_the_nodes(self):
        self.parsed(show_formula(wide(199)), wide(199))
        self.parsed("~" + show_formula(wide(199)), ("not", wide(199)))
        self.oversized(show_formula(wide(201)), "nodes")
        self.oversized("~~" + show_formula(wide(199)), "nodes")
        self.oversized("x != 0 & " + show_formula(wide(199)), "nodes")

    def test_the_bound_of_the_levels(self):
        for sign in ["&", "|"]:
            self.assertEqual(levels(parse_formula(f" {sign} ".join(["x = 0"] * 30))), 30)
            self.oversized(f" {sign} ".join(["x = 0"] * 31), "nodes")
        names = ", ".join([f"x{number}" for number in range(29)])
        self.assertEqual(levels(parse_formula(f"all {names}: x = 0")), 30)
        self.oversized(f"all {names}, y: x = 0", "nodes")
        self.oversized(f"all {names}: x != 0", "nodes")
        self.oversized(f"~all {names}: x = 0", "nodes")
        self.assertEqual(levels(parse_formula("~" * 28 + "x != 0")), 30)
        self.oversized("~" * 29 + "x != 0", "nodes")

    def test_very_many(self):
        self.oversized("some " + ",".join(["x"] * 1900) + ": x = 0", "nodes")
        self.oversized("|".join(["x=1"] * 1000), "nodes")

    def test_only_when_no_token_follows(self):
        large = show_formula(wide(201))
        self.malformed(f"{large} )", len(large) + 1)
        self.malformed(f"{large} &", len(large) + 2)
        self.malformed(f"({large}", len(large) + 1)
        self.malformed(f"{large}; ", len(large))
        self.oversized(f"{large} & 255 < 0", "term")
        self.oversized(f"{large} & {'~' * 31}", "depth")


class Order(ParserTests):
    def test_tokens_are_asked_first(self):
        self.oversized("x = ) " + " " * 4000, "text")
        self.malformed(") 007", 2)
        self.malformed("255 + 1 = x & 256 = x", 14)
        self.malformed("(" * 31 + "!", 31)
        self.malformed("x xY", 2)

    def test_the_first_one_counts(self):
        self.malformed("x = ) & T[x] = 10", 4)
        self.malformed("T[x] = 10 )", 7)
        self.malformed("T[x = 10", 4)


def random_formula(source, deep):
    """Return a formula of at most so many levels."""
    leaves = ["eq", "le", "pow", "word", "call"]
    kind = source.choice(leaves if deep == 1 else [*leaves, *[*JOINTS, "not", "some", "all"] * 2])
    if kind in ("eq", "le"):
        names = source.sample(["x", "y", "z1", "aa"], source.randrange(4))
        pairs = [(name, source.choice([1, -1, 2, -7, 255, -255])) for name in names]
        return (kind, linear(pairs, source.randrange(-255, 256)))
    if kind == "pow":
        return (kind, source.choice(["x", "y"]))
    if kind == "word":
        return (kind, source.choice(["T", "U9"]), source.choice(["x", "y"]), source.randrange(10))
    if kind == "call":
        return (kind, source.choice(["f", "x"]), tuple(source.choices(["x", "y", "z"], k=source.randrange(1, 4))))
    if kind == "not":
        return (kind, random_formula(source, deep - 1))
    if kind in JOINTS:
        return (kind, random_formula(source, deep - 1), random_formula(source, deep - 1))
    return (kind, source.choice(["x", "y", "z"]), random_formula(source, deep - 1))


STRENGTHS = {"iff": 1, "imp": 2, "or": 3, "and": 4}


def sparse(formula, least=0, last=True):
    """Return a text with as few parentheses as the grammar allows in a place for parts of at least this strength.

    `last` tells that nothing stands behind the part, up to a parenthesis or the end.
    """
    kind = formula[0]
    if kind in QUANTIFIERS:
        return f"{kind} {formula[1]}: {sparse(formula[2])}" if last else f"({kind} {formula[1]}: {sparse(formula[2])})"
    if kind == "not":
        return f"~{sparse(formula[1], 5, last)}"
    if kind not in JOINTS:
        return show_formula(formula)
    strength = STRENGTHS[kind]
    if strength < least:
        return f"({sparse(formula)})"
    left = strength if kind in ("and", "or") else strength + 1
    return f"{sparse(formula[1], left, False)} {JOINTS[kind]} {sparse(formula[2], strength + 1, last)}"


class ThereAndBack(ParserTests):
    def test_formulas_that_show_formula_writes(self):
        source = random.Random(1)
        for _ in range(400):
            formula = random_formula(source, 6)
            if node_count(formula) <= 200 and len(show_formula(formula)) <= 4000:
                self.parsed(show_formula(formula), formula)

    def test_each_kind_in_each_kind(self):
        leaves = [eq(("x", -1), constant=7), le(("y", 3)), A, ("word", "T", "x", 3), ("call", "f", ("x", "y"))]
        for one in leaves:
            around = [
                ("not", one), ("some", "x", one), ("all", "y", one), *[(kind, one, A) for kind in JOINTS],
                *[(kind, B, one) for kind in JOINTS],
            ]
            for formula in [one, *around]:
                self.parsed(show_formula(formula), formula)
                for outer in [("not", formula), ("some", "z", formula), ("and", formula, formula), ("imp", A, formula)]:
                    self.parsed(show_formula(outer), outer)

    def test_terms_that_show_term_writes(self):
        source = random.Random(2)
        terms = [linear([], 0), linear([], 255), linear([], -255), linear([("x", -1)], 7), linear([("x", 1)], -255)]
        for _ in range(300):
            names = source.sample(["x", "y", "z1", "aa", "abcdefghijkl"], source.randrange(6))
            terms.append(linear([(name, source.randrange(-255, 256)) for name in names], source.randrange(-255, 256)))
        for term in terms:
            self.assertIs(is_term(term), True)
            self.parsed(f"{show_term(term)} = 0", ("eq", term))
            self.parsed(f"{show_term(term)} <= 0", ("le", term))

    def test_texts_with_few_parentheses(self):
        source = random.Random(3)
        for _ in range(400):
            formula = random_formula(source, 5)
            if node_count(formula) <= 200:
                self.parsed(sparse(formula), formula)


class AgainstTheGrammar(ParserTests):
    def same(self, symbol, function, text):
        wrong = Grammar(text).wrong(symbol)
        try:
            function(text)
            found = None
        except Malformed as error:
            found = error.at
        except (Oversized, Misused, Unknown, Clashing):
            # Not a matter of the grammar; other tests ask when these are raised.
            return
        self.assertEqual(found, wrong, text)

    def test_short_texts(self):
        parts = ["x", "2", "T", "(", ")", "=", "<=>", "=>", "&", "~", "-", "*", "pow", "some", ":", ",", "[", "10"]
        for many in range(4):
            for chosen in itertools.product(parts, repeat=many):
                self.same("formula", parse_formula, " ".join(chosen))

    def test_units_side_by_side(self):
        parts = ["x = 1", "some x:", "<=>", "=>", "|", "~", "(", ")"]
        for many in range(1, 6):
            for chosen in itertools.product(parts, repeat=many):
                if chosen[0] in ("some x:", "x = 1"):
                    self.same("formula", parse_formula, " ".join(chosen))

    def test_texts_with_a_token_too_many_too_few_or_another_one(self):
        source = random.Random(4)
        others = [
            "x", "f", "0", "9", "10", "T", "some", "all", "pow", "def", "told", "<=>", "=>", "->", "<=", ">=", "!=",
            "=", "<", ">", "+", "-", "*", "~", "&", "|", "(", ")", "[", "]", "{", "}", ",", ":", ";",
        ]
        for _ in range(60):
            formula = random_formula(source, 4)
            words = [str(value) for _, value, _ in tokens(sparse(formula))]
            self.same("formula", parse_formula, " ".join(words))
            for at in range(len(words)):
                other = source.choice(others)
                before, behind = words[:at], words[at + 1:]
                more = [*before, other, *words[at:]]
                for changed in [before, before + behind, [*before, other, *behind], more]:
                    self.same("formula", parse_formula, " ".join(changed))

    def test_books(self):
        words = (
            "def f ( ) : 0 = 0 ; told T { 0 : 1 -> 0 1 ; 1 : 2 -> 1 0 ; } ; def g ( x , y ) : T [ x ] = 1 & y = 1 ;"
        ).split()
        for at in range(len(words)):
            self.same("book", parse_book, " ".join(words[:at]))
            for other in ["", "x", "0", "10", "T", "some", "def", "told", "->", "(", ")", "{", "}", ",", ":", ";", "="]:
                self.same("book", parse_book, " ".join([*words[:at], other, *words[at:]]))
                self.same("book", parse_book, " ".join([*words[:at], other, *words[at + 1:]]))


class Books(ParserTests):
    def book_malformed(self, text, at):
        self.refused(Malformed, at, parse_book, text)

    def test_an_empty_text(self):
        for text in ["", "  \n"]:
            book = parse_book(text)
            self.assertIsInstance(book, Book)
            self.assertEqual((book.definitions(), book.words()), ([], []))

    def test_definitions(self):
        book = parse_book("def even(x): some y: x = 2 * y; def less(x, y): x < y;\ndef yes(): 0 = 0;")
        self.assertEqual(book.definitions(), ["even", "less", "yes"])
        self.assertEqual(book.parameters("even"), ("x",))
        self.assertEqual(book.formula("even"), ("some", "y", eq(("x", 1), ("y", -2))))
        self.assertEqual(book.parameters("less"), ("x", "y"))
        self.assertEqual(book.formula("less"), le(("x", 1), ("y", -1), constant=1))
        self.assertEqual((book.parameters("yes"), book.formula("yes")), ((), eq()))

    def test_words(self):
        book = parse_book("told T { 0: 0 -> 0 1; 1: 1 -> 1 0; }; told U{0:9->0 0;};")
        self.assertEqual(book.words(), ["T", "U"])
        self.assertEqual((book.told("T").outputs, book.told("T").table), ([0, 1], [[0, 1], [1, 0]]))
        self.assertEqual((book.told("U").outputs, book.told("U").table), ([9], [[0, 0]]))
        self.assertEqual(book.told("T").output(7), 1)

    def test_definitions_and_words_in_any_order(self):
        book = parse_book(
            "def a(x): pow(x); told T { 0: 3 -> 0 0; }; def b(x): T[x] = 3 & a(x); told U { 0: 4 -> 0 0; }; "
            "def c(x, y): b(x) <=> U[y] != 4;"
        )
        self.assertEqual((book.definitions(), book.words()), (["a", "b", "c"], ["T", "U"]))
        self.assertEqual(
            book.formula("c"), ("iff", ("call", "b", ("x",)), ("not", ("word", "U", "y", 4))),
        )

    def test_what_does_not_fit(self):
        for text, at in [
            ("x", 0), ("pow(x)", 0), ("def", 3), ("def(", 3), ("def T(x): pow(x);", 4), ("def some(x): pow(x);", 4),
            ("def f: pow(x);", 5), ("def f(x: pow(x);", 7), ("def f(,): pow(x);", 6), ("def f(x,): pow(x);", 8),
            ("def f(x y): pow(x);", 8), ("def f(1): pow(x);", 6), ("def f(x) pow(x);", 9), ("def f(x): ;", 10),
            ("def f(x): pow(x)", 16), ("def f(x): pow(x) def", 17), ("def f(x): pow(x));", 16),
            ("def f(x): pow(x);;", 17), ("def f(x): pow(x); x", 18), ("told", 4), ("told t { };", 5),
            ("told f(x);", 5), ("told T (", 7),
            ("told T {", 8), ("told T { x", 9), ("told T { 0", 10), ("told T { 0 0", 11),
            ("told T { 0: -> 0 0; };", 12),
            ("told T { 0: 0 0 0; };", 14), ("told T { 0: 0 -> ; };", 17), ("told T { 0: 0 -> 0; };", 18),
            ("told T { 0: 0 -> 0 0 };", 21), ("told T { 0: 0 -> 0 0; ;", 22), ("told T { 0: 0 -> 0 0; }", 23),
            ("told T { 0: 0 -> 0 0; } def", 24), ("told T { 0: 0 -> 0, 0; };", 18), ("told T { 0: 0 => 0 0; };", 14),
            ("told T { 0: x -> 0 0; };", 12), (";", 0), ("told T { }", 10), ("told T }", 7),
        ]:
            self.book_malformed(text, at)

    def test_the_number_in_front_of_a_state(self):
        for text, at in [
            ("told T { 1: 0 -> 0 0; };", 9), ("told T { 1", 9), ("told T { 0: 0 -> 0 0; 0: 0 -> 0 0; };", 22),
            ("told T { 0: 0 -> 0 0; 2: 0 -> 0 0; };", 22), ("told T { 0: 0 -> 0 0; 1: 0 -> 0 0; 3 x", 35),
        ]:
            self.book_malformed(text, at)

    def test_outputs_that_are_too_large(self):
        self.book_malformed("told T { 0: 10 -> 0 0; };", 12)
        self.book_malformed("told T { 0: 9 -> 0 0; 1: 255 x", 25)
        self.book_malformed("told T { 0: 9 -> 0 0; }; def f(x): T[x] = 10;", 42)

    def test_what_a_told_word_refuses(self):
        self.refused(Misused, "outputs", parse_book, "told T { };")
        self.refused(Misused, "table", parse_book, "told T { 0: 0 -> 0 1; };")
        self.refused(Misused, "table", parse_book, "told T { 0: 0 -> 255 0; };")
        self.refused(Misused, "settled", parse_book, "told T { 0: 0 -> 1 1; 1: 1 -> 1 1; };")
        states = [f"{index}:0->0 0;" for index in range(41)]
        self.assertEqual(len(parse_book(f"told T {{ {' '.join(states[:40])} }};").told("T").outputs), 40)
        self.refused(Oversized, "states", parse_book, f"told T {{ {' '.join(states)} }};")

    def test_what_a_book_refuses(self):
        even = "def even(x): some y: x = 2 * y; "
        word = "told T { 0: 0 -> 0 0; }; "
        self.refused(Clashing, "even", parse_book, f"{even}def even(y): pow(y);")
        self.refused(Clashing, "y", parse_book, "def f(x, y, y, x): x = y;")
        self.refused(Clashing, "T", parse_book, word + word)
        self.refused(Unknown, "U", parse_book, f"{word}def f(x): U[x] = 1;")
        self.refused(Unknown, "f", parse_book, f"{even}def f(x): f(x);")
        self.refused(Unknown, "later", parse_book, "def f(x): later(x); def later(x): pow(x);")
        self.refused(Unknown, "T", parse_book, f"def f(x): T[x] = 0; {word}")
        self.refused(Misused, "count", parse_book, f"{even}def f(x): even(x, x);")
        self.refused(Unknown, "a", parse_book, "def f(y): z = a + y;")
        self.refused(Clashing, "x", parse_book, "def f(x, x): T[z] = 0;")

    def test_an_item_is_added_when_its_last_token_has_been_read(self):
        self.refused(Unknown, "y", parse_book, "def f(x): y = 0; )")
        self.book_malformed("def f(x): y = 0 ) def", 16)
        self.book_malformed("def f(x): y = 0", 15)
        self.refused(Misused, "outputs", parse_book, "told T { }; )")
        self.book_malformed("told T { } )", 11)
        self.refused(Clashing, "f", parse_book, "def f(x): pow(x); def f(x): pow(x); def f")
        self.refused(Misused, "outputs", parse_book, "told T { 0: 0 -> 0 0; }; told T { };")

    def test_tokens_are_asked_first(self):
        self.book_malformed("def f(x): y = 0; 007", 17)
        self.refused(Oversized, "text", parse_book, "def" + " " * 4000)

    def test_terms(self):
        self.refused(Oversized, "term", parse_book, "def f(x): 255 + 1 = x ) ;")
        self.book_malformed("def f(x): 255 + 1 = ;", 20)

    def test_depth(self):
        self.refused(Oversized, "depth", parse_book, f"def f(x): {'(' * 30}")
        self.book_malformed(f"def f(x): {'(' * 29}", 39)
        book = parse_book(f"def f(x): {'(' * 29}pow(x){')' * 29}; def g(x): {'~' * 29}pow(x);")
        self.assertEqual(book.formula("f"), ("pow", "x"))
        self.assertEqual(levels(book.formula("g")), 30)

    def test_nodes(self):
        large = show_formula(wide(201))
        self.refused(Oversized, "nodes", parse_book, f"def f(): {large};")
        self.book_malformed(f"def f(a): {large}", 10 + len(large))
        self.book_malformed(f"def f(a): {large} x", 11 + len(large))
        self.refused(Oversized, "nodes", parse_book, f"def f(a): pow(a); def f(a, a): {large}; )")
        self.refused(Oversized, "nodes", parse_book, "def f(x): " + " & ".join(["x = 0"] * 31) + ";")
        book = parse_book(f"def f(a): ~{show_formula(wide(199))}; def g(x): " + " & ".join(["x = 0"] * 30) + ";")
        self.assertEqual((node_count(book.formula("f")), levels(book.formula("g"))), (200, 30))


if __name__ == "__main__":
    unittest.main()
