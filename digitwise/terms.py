"""Terms: sums of multiples of names and a constant."""

from digitwise.errors import Oversized, Unknown
from digitwise.lexer import is_name

COEFFICIENT_LIMIT = 255


def linear(pairs, constant):
    """Return the term of a list of pairs `(name, coefficient)` and a constant."""
    sums = {}
    for name, coefficient in pairs:
        sums[name] = sums.get(name, 0) + coefficient
    kept = [(name, sums[name]) for name in sorted(sums) if sums[name] != 0]
    coefficients = [pair[1] for pair in kept]
    if not all([in_range(number) for number in [constant, *coefficients]]):
        raise Oversized("term")
    return (tuple(kept), constant)


def plus(one, two):
    """Return the sum of two terms."""
    return linear([*one[0], *two[0]], one[1] + two[1])


def minus(one, two):
    """Return the difference of two terms."""
    negatives = [(name, -coefficient) for name, coefficient in two[0]]
    return linear([*one[0], *negatives], one[1] - two[1])


def times(factor, term):
    """Return an integer times a term."""
    pairs, constant = term
    return linear([(name, factor * coefficient) for name, coefficient in pairs], factor * constant)


def value(term, numbers):
    """Return the value of a term for a dict from names to numbers."""
    pairs, total = term
    for name, coefficient in pairs:
        if name not in numbers:
            raise Unknown(name)
        total += coefficient * numbers[name]
    return total


def is_term(value):
    """Return True if a value of any kind is a term."""
    if not isinstance(value, tuple) or len(value) != 2:
        return False
    pairs, constant = value
    if not isinstance(pairs, tuple) or not all([is_pair(pair) for pair in pairs]):
        return False
    names = [pair[0] for pair in pairs]
    return names == sorted(set(names)) and is_coefficient(constant)


def is_pair(value):
    """Return True if a value of any kind is a name with a coefficient that is not 0."""
    if not isinstance(value, tuple) or len(value) != 2:
        return False
    return is_name(value[0]) and is_coefficient(value[1]) and value[1] != 0


def is_coefficient(value):
    """Return True if a value of any kind is an integer that a term may have."""
    return isinstance(value, int) and not isinstance(value, bool) and in_range(value)


def in_range(number):
    """Return True if an integer is neither too small nor too large for a term."""
    return -COEFFICIENT_LIMIT <= number <= COEFFICIENT_LIMIT


def rename_term(term, names):
    """Return a term with the names that are keys of a dict replaced by their entries."""
    pairs, constant = term
    return linear([(names.get(name, name), coefficient) for name, coefficient in pairs], constant)


def show_term(term):
    """Return the text of a term."""
    pairs, constant = term
    parts = [(coefficient, multiple_text(name, abs(coefficient))) for name, coefficient in pairs]
    if constant != 0 or not parts:
        parts.append((constant, str(abs(constant))))
    first, text = parts[0]
    shown = f"-{text}" if first < 0 else text
    for number, text in parts[1:]:
        shown += f" - {text}" if number < 0 else f" + {text}"
    return shown


def multiple_text(name, factor):
    """Return the text of a positive multiple of a name."""
    return name if factor == 1 else f"{factor} * {name}"
