"""Compiling formulas into least machines."""

from digitwise.book import check_formula
from digitwise.formulas import free_names, show_formula
from digitwise.least import least
from digitwise.machine import Machine
from digitwise.steps import in_order, sources, step_machine


class Compiler:
    """The machines of the formulas of a book, in which each definition is compiled once."""

    def __init__(self, book):
        self._book = book
        self._kept = {}

    def compiled(self, formula):
        """Return the pair of the free names of a formula and its least machine."""
        check_formula(self._book, formula)
        return self._made(formula)

    def definition(self, name):
        """Return the pair for the formula of a definition."""
        formula = self._book.formula(name)
        if name not in self._kept:
            self._kept[name] = self._made(formula)
        names, machine = self._kept[name]
        # A copy, because what is done to it must not change what is compiled later.
        return names, Machine(machine.width, machine.table, machine.accepting)

    def _made(self, formula):
        """Return the pair of a formula that fits the book."""
        # A formula is deeper than a key may be, so its text stands for it.
        found = {}
        for node in in_order(self._book, formula, self._kept):
            text = show_formula(node)
            if text not in found:
                pairs = self._source_pairs(node, found)
                machine, _ = step_machine(self._book, node, pairs)
                found[text] = (tuple(free_names(node)), least(machine))
        return found[show_formula(formula)]

    def _source_pairs(self, node, found):
        """Return the list of the pairs of the sources of a node, some of which have been found under their texts."""
        if node[0] != "call":
            return [found[show_formula(part)] for part in sources(self._book, node)]
        name = node[1]
        if name not in self._kept:
            self._kept[name] = found[show_formula(self._book.formula(name))]
        return [self._kept[name]]


def compile_formula(book, formula):
    """Return the pair of the free names of a formula and its least machine."""
    return Compiler(book).compiled(formula)
