"""Papers: lists of steps that bear out the machine of a formula."""

from digitwise.book import check_formula
from digitwise.formulas import free_names, show_formula
from digitwise.least import least_with_map
from digitwise.steps import in_order, sources, step_machine, told_pair

RULES = ("eq", "le", "pow", "word", "not", "and", "or", "imp", "iff", "some", "all", "call", "least")


def paper_of(book, formula):
    """Return the paper of a formula."""
    check_formula(book, formula)
    paper = []
    # A formula is deeper than a key may be, so its text stands for it.
    places = {}
    for node in in_order(book, formula, []):
        text = show_formula(node)
        if text not in places:
            parents = [places[show_formula(source)] for source in sources(book, node)]
            added = steps_of(book, node, parents, paper)
            paper.extend(added)
            places[text] = len(paper) - 1
    return paper


def steps_of(book, node, parents, paper):
    """Return the list of the step of a node and the least one behind it, if there is one, for the end of a paper."""
    machine, labels = step_machine(book, node, [told_pair(paper[parent]) for parent in parents])
    own = step_of(node[0], node, machine, tuple(parents), labels)
    smallest, states = least_with_map(machine)
    if smallest.shape() == machine.shape():
        return [own]
    return [own, step_of("least", node, smallest, (len(paper),), tuple(states))]


def step_of(rule, formula, machine, parents, labels):
    """Return a step."""
    _, table, accepting = machine.shape()
    return (rule, formula, tuple(free_names(formula)), table, accepting, parents, labels)


def claim(paper):
    """Return the pair of the formula and the machine of the last step of a paper."""
    return paper[-1][1], told_pair(paper[-1])[1]


def step_text(step):
    """Return the text of a step."""
    rule, formula, _, table, _, parents, _ = step
    behind = ", ".join([str(parent) for parent in parents])
    shown = f"; {behind}" if len(parents) > 0 else ""
    return f"{rule}: {show_formula(formula)} ({len(table)} states{shown})"
