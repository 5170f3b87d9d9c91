"""The meaning of formulas, told by trying numbers, and formulas of every kind for the tests."""

import itertools

from digitwise.formulas import free_names
from digitwise.parser import parse_book, parse_formula
from digitwise.terms import value

BOOK = """
told T { 0: 0 -> 0 1; 1: 1 -> 1 0; };
told M { 0: 0 -> 1 3; 1: 0 -> 0 4; 2: 1 -> 3 5; 3: 1 -> 2 0; 4: 2 -> 5 1; 5: 2 -> 4 2; };
told K { 0: 7 -> 0 0; };
told P { 0: 2 -> 2 1; 1: 3 -> 1 1; 2: 2 -> 2 1; 3: 9 -> 3 3; };
def even(x): some y: x = 2 * y;
def less(x, y): x < y;
def swapped(y, x): less(x, y);
def first(x, y): pow(x);
def nothing(x): 1 = 2;
def between(x, y, z): less(x, y) & less(y, z);
def some2(a, b): some x: a = b + 2 * x;
def odd(y): ~even(y);
def three(c, a, b): a + 2 * b <= 3 * c + 1;
"""

# Each with a bound below which the numbers of its quantifiers need only be tried for small numbers of its free names.
SAMPLES = [
    # Equations and inequalities.
    ("x = 3", 0), ("2 * x = 6", 0), ("2 * x = 7", 0), ("x = y", 0), ("3 * x - 2 * y = 1", 0), ("x + y = z + 2", 0),
    ("1 = 1", 0), ("1 = 2", 0), ("x - x = 0", 0), ("x <= 4", 0), ("x > 2", 0), ("3 < 2", 0), ("2 <= 2", 0),
    ("2 * x < 3 * y", 0), ("b + 2 * a - c <= 1", 0), ("x != y + 1", 0), ("a + b + c = d", 0),
    # Powers and words.
    ("pow(x)", 0), ("T[x] = 1", 0), ("T[x] != 1", 0), ("T[x] = 5", 0), ("M[x] = 0", 0), ("M[y] = 2", 0),
    ("K[x] = 7", 0), ("K[x] = 0", 0), ("P[x] = 2", 0), ("P[x] = 3", 0), ("P[x] = 9", 0),
    # Connectives.
    ("~x = 3", 0), ("~~pow(x)", 0), ("x < y & pow(y)", 0), ("pow(y) & x < y", 0), ("x = 1 | y = 1", 0),
    ("pow(x) => T[x] = 1", 0), ("x < 3 => y < 2", 0), ("x < y <=> y < z", 0), ("x < 2 <=> 1 = 2", 0),
    ("(z = 1 | x = 2) & ~(y = 1 <=> x <= z)", 0), ("x = 1 & x = 2", 0), ("pow(x) & pow(x)", 0), ("1 = 1 => x = 1", 0),
    ("T[x] = 0 & M[x] = 1 | pow(y)", 0), ("a < b & c < d", 0),
    # Quantifiers.
    ("some y: x = 2 * y", 9), ("some y: x = 3 * y + 1", 9), ("some y: y < x & pow(y)", 9), ("some x: x = 200", 201),
    ("some x: x = 3 & x = 4", 9), ("all y: y < x => T[y] = 0", 9), ("all x: x >= 0", 9), ("all x: x > 0", 9),
    ("all y: x <= y", 9), ("some y, z: x = 3 * y + 5 * z", 9), ("all y: y < 5 => some z: x + y = z", 20),
    ("some y: x = y & (some x: y = 2 * x)", 9), ("all y: (some x: y = 2 * x) => x != y", 9),
    ("some y: y > x & y <= z & M[y] = 1", 12), ("some y: 4 * y = x + z", 9), ("some a: x = a & all a: a >= y", 9),
    ("all y: y < x => some z: z > y & z <= x & pow(z)", 9), ("some y: x + y = 40 & pow(y)", 41),
    ("some y: x = y | z = y", 9),
    # Bound names that are not free in their part.
    ("some y: x = 3", 2), ("all y: x = 3", 2), ("some y: 1 = 1", 2), ("all y: 1 = 2", 2), ("some x: all x: x < 3", 9),
    ("some x: some x: x = y", 9), ("~(some z: all z: x < y)", 2), ("some z: pow(x) & T[y] = 1", 2),
    ("some y: y - y = 0", 2), ("all y: y = y + 1 | x < z", 2),
    # Calls.
    ("even(x)", 9), ("even(y)", 9), ("odd(x)", 9), ("less(x, y)", 0), ("less(y, x)", 0), ("less(x, x)", 0),
    ("swapped(x, y)", 0), ("first(x, y)", 0), ("first(y, x)", 0), ("first(x, x)", 0), ("nothing(y)", 0),
    ("first(y, z) & x = 1", 0), ("between(x, y, z)", 0), ("between(z, x, y)", 0), ("between(x, y, x)", 0),
    ("between(a, a, b)", 0), ("some2(a, b)", 9), ("some2(b, a)", 9), ("some2(x, y)", 9), ("some2(x, x)", 9),
    ("three(a, b, c)", 0), ("three(c, b, a)", 0), ("three(x, y, x)", 0), ("three(a, a, a)", 0),
    ("some x: even(x) & y = x + 1", 9), ("all z: less(z, x) => first(y, z)", 9), ("even(x) <=> ~odd(x)", 9),
    ("some y: first(x, y)", 9), ("all x: first(y, x) => less(x, z)", 9),
]


def sample_book():
    """Return the book of the samples."""
    return parse_book(BOOK)


def samples():
    """Return the list of the formulas of the samples and their bounds."""
    return [(parse_formula(text), bound) for text, bound in SAMPLES]


def holds(book, formula, numbers, bound):
    """Tell whether a formula holds for a dict of numbers, the numbers of quantifiers being below a bound."""
    kind = formula[0]
    if kind in ("eq", "le"):
        found = value(formula[1], numbers)
        return found == 0 if kind == "eq" else found <= 0
    if kind == "pow":
        return numbers[formula[1]] in [2 ** place for place in range(20)]
    if kind == "word":
        return book.told(formula[1]).output(numbers[formula[2]]) == formula[3]
    if kind == "not":
        return not holds(book, formula[1], numbers, bound)
    if kind in ("some", "all"):
        found = [holds(book, formula[2], {**numbers, formula[1]: number}, bound) for number in range(bound)]
        return any(found) if kind == "some" else all(found)
    if kind == "call":
        given = dict(zip(book.parameters(formula[1]), [numbers[name] for name in formula[2]]))
        return holds(book, book.formula(formula[1]), given, bound)
    first, second = [holds(book, part, numbers, bound) for part in formula[1:]]
    return {
        "and": first and second, "or": first or second, "imp": not first or second, "iff": first == second,
    }[kind]


def tried(book, formula, bound):
    """Return the list of pairs of the small tuples of numbers of the free names, and whether the formula holds."""
    names = free_names(formula)
    limit = {0: 1, 1: 9, 2: 6, 3: 4}.get(len(names), 3)
    return [
        (numbers, holds(book, formula, dict(zip(names, numbers)), bound))
        for numbers in itertools.product(range(limit), repeat=len(names))
    ]
