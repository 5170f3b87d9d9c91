"""The machine of each kind of formula, made from those of its parts, and the labels that bear it out."""

from digitwise.errors import Oversized
from digitwise.formulas import COMPARISONS, JOINTS, free_names, parts
from digitwise.linear import at_most, equation
from digitwise.machine import TRACKS, Machine
from digitwise.products import both_with_pairs, complement
from digitwise.project import ranks, some_with_sets
from digitwise.told import powers
from digitwise.tracks import spread_with_states


def sources(book, formula):
    """Return the list of the formulas from whose machines the machine of a formula is made."""
    if formula[0] == "call":
        return [book.formula(formula[1])]
    return parts(formula)


def in_order(book, formula, known):
    """Return the list of the nodes of a formula in the order in which their machines are made.

    The nodes of a definition's formula stand before its first call, unless the definition is one of the known ones.
    """
    # Without recursion, because a definition may call the one before it, and so on, without a limit.
    seen = set(known)
    found = []
    waiting = [(formula, False)]
    while waiting:
        node, is_prepared = waiting.pop()
        if is_prepared:
            found.append(node)
            continue
        waiting.append((node, True))
        if node[0] == "call":
            if node[1] in seen:
                continue
            seen.add(node[1])
        waiting.extend([(source, False) for source in reversed(sources(book, node))])
    return found


def step_machine(book, formula, pairs):
    """Return the machine of a formula, before it is made least, and the tuple of its labels.

    The pairs are the names and the machine of each of the formula's sources.
    """
    kind = formula[0]
    names = free_names(formula)
    if len(names) > TRACKS:
        raise Oversized("width")
    if kind in COMPARISONS:
        return comparison_machine(formula)
    if kind == "pow":
        machine = powers()
        return machine, tuple(range(machine.size))
    if kind == "word":
        return read_at(book.told(formula[1]).machine(formula[3]), names, names)
    if kind == "not":
        return complement(pairs[0][1]), ()
    if kind in JOINTS:
        return joint_machine(kind, names, pairs)
    own, machine = pairs[0]
    if kind == "call":
        return read_at(machine, names_of_call(book, formula, own), names)
    return quantified_machine(kind, machine, own, formula[1])


def comparison_machine(formula):
    """Return what `step_machine` returns for an equation or an inequality."""
    pairs, constant = formula[1]
    coefficients = [pair[1] for pair in pairs]
    machine, labels = equation(coefficients, constant) if formula[0] == "eq" else at_most(coefficients, constant)
    return machine, tuple(labels)


def read_at(machine, own, names):
    """Return the machine for all these names that reads a machine at its own ones, and the tuple of the old states."""
    wider, states = spread_with_states(machine, [names.index(name) for name in own], len(names))
    return wider, tuple(states)


def joint_machine(kind, names, pairs):
    """Return what `step_machine` returns for a formula that joins two."""
    one, one_states = read_at(pairs[0][1], pairs[0][0], names)
    two, two_states = read_at(pairs[1][1], pairs[1][0], names)
    machine, found = both_with_pairs(one, two, kind)
    return machine, tuple([(one_states[first], two_states[second]) for first, second in found])


def quantified_machine(kind, machine, own, bound):
    """Return what `step_machine` returns for a quantifier over the machine of its part, with the part's own names."""
    if kind == "all":
        opposite, labels = quantified_machine("some", complement(machine), own, bound)
        return complement(opposite), labels
    if bound in own:
        track = own.index(bound)
        projected, sets = some_with_sets(machine, track)
        return projected, (tuple(sets), tuple(ranks(machine, track)))
    sets = [(state,) for state in range(machine.size)]
    return machine, (tuple(sets), tuple([0 if mark else None for mark in machine.accepting]))


def names_of_call(book, formula, own):
    """Return the list of the names that a call has in the place of these names of the definition's formula."""
    parameters = book.parameters(formula[1])
    return [formula[2][parameters.index(name)] for name in own]


def told_pair(step):
    """Return the pair of the names and the machine of a step of a paper."""
    _, _, names, table, accepting, _, _ = step
    return names, Machine(len(names), table, accepting)
