"""Deciding formulas and comparing them."""

from digitwise.book import check_formula
from digitwise.compiler import compile_formula
from digitwise.errors import Misused
from digitwise.formulas import free_names
from digitwise.products import complement
from digitwise.witness import least_tuple


def decide(book, formula):
    """Return True if a closed formula holds."""
    check_formula(book, formula)
    if len(free_names(formula)) > 0:
        raise Misused("open")
    return is_valid(book, formula)


def is_valid(book, formula):
    """Return True if a formula holds for all tuples."""
    # Each state of a least machine is reached by some word, and each word stands for a tuple.
    return all(compile_formula(book, formula)[1].accepting)


def can_be_met(book, formula):
    """Return True if a formula holds for at least one tuple."""
    return any(compile_formula(book, formula)[1].accepting)


def are_same(book, one, two):
    """Return True if two formulas hold for the same numbers of all their free names together."""
    return is_valid(book, ("iff", one, two))


def difference(book, one, two):
    """Return the least tuple for which exactly one of two formulas holds, or None."""
    return least_tuple(complement(compile_formula(book, ("iff", one, two))[1]))
