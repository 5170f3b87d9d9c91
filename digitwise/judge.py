"""The judge of papers: whatever it accepts is right, whoever made the paper."""

from digitwise.book import check_formula
from digitwise.digits import digit, letter_of, letters
from digitwise.errors import Refused
from digitwise.formulas import COMPARISONS, JOINTS, free_names, is_formula
from digitwise.linear import is_accepting, label_behind, weights
from digitwise.machine import is_state
from digitwise.products import joined
from digitwise.steps import names_of_call, sources, told_pair
from digitwise.told import powers

STEP_LENGTH = 7


def bad_step(book, value):
    """Return the index of the first step of a value of any kind that is not accepted, or None."""
    if not isinstance(value, (list, tuple)) or len(value) == 0:
        return 0
    earlier = []
    for step in value:
        if not is_accepted(book, earlier, step):
            return len(earlier)
        earlier.append(step)
    return None


def accepts(book, value):
    """Return True if a value of any kind is a paper that is accepted."""
    return bad_step(book, value) is None


def decision(book, value):
    """Return the last formula of an accepted value and whether it holds, or None if it has free names."""
    if not accepts(book, value):
        return None
    _, formula, names, _, accepting, _, _ = value[-1]
    return (formula, accepting[0]) if len(names) == 0 else None


def is_accepted(book, earlier, step):
    """Return True if a value of any kind is a step that is right behind the earlier ones."""
    if not isinstance(step, tuple) or len(step) != STEP_LENGTH:
        return False
    rule, formula, names, table, accepting, parents, labels = step
    if not is_fitting(book, formula) or not is_rule_of(rule, formula) or not are_names_of(names, formula):
        return False
    if not have_form(table, accepting):
        return False
    try:
        machine = told_pair(step)[1]
    except Refused:
        return False
    wanted = [formula] if rule == "least" else sources(book, formula)
    if not are_parents(parents, wanted, earlier):
        return False
    pairs = [told_pair(earlier[parent]) for parent in parents]
    return isinstance(labels, tuple) and bear_out(book, rule, formula, machine, pairs, labels)


def is_fitting(book, value):
    """Return True if a value of any kind is a formula that fits a book."""
    if not is_formula(value):
        return False
    try:
        check_formula(book, value)
    except Refused:
        return False
    return True


def is_rule_of(value, formula):
    """Return True if a value of any kind is a rule for a formula."""
    return isinstance(value, str) and value in ("least", formula[0])


def are_names_of(value, formula):
    """Return True if a value of any kind is the tuple of the free names of a formula."""
    if not isinstance(value, tuple) or not all([isinstance(name, str) for name in value]):
        return False
    return list(value) == free_names(formula)


def have_form(table, accepting):
    """Return True if two values of any kind are a tuple of tuples, and a tuple of True and False."""
    if not isinstance(table, tuple) or not isinstance(accepting, tuple):
        return False
    return all([isinstance(row, tuple) for row in table]) and all([isinstance(mark, bool) for mark in accepting])


def are_parents(value, wanted, earlier):
    """Return True if a value of any kind is the tuple of the indexes of earlier steps with these formulas."""
    if not isinstance(value, tuple) or len(value) != len(wanted):
        return False
    for parent, formula in zip(value, wanted):
        if not is_state(parent, len(earlier)) or earlier[parent][1] != formula:
            return False
    return True


def bear_out(book, rule, formula, machine, pairs, labels):
    """Return True if the labels, any tuple, bear out the machine of a step; the pairs are told by its parents."""
    if rule in COMPARISONS:
        return bear_out_comparison(formula, machine, labels)
    if rule == "pow":
        return are_image(labels, machine, powers(), same_letters(1))
    if rule == "word":
        return are_image(labels, machine, book.told(formula[1]).machine(formula[3]), same_letters(1))
    if rule == "not":
        return len(labels) == 0 and machine.table == pairs[0][1].table and machine.accepting == turned(pairs[0][1])
    names = free_names(formula)
    if rule in JOINTS:
        return bear_out_joint(rule, names, machine, pairs, labels)
    own, part = pairs[0]
    if rule == "call":
        return are_image(labels, machine, part, letters_beside(names, names_of_call(book, formula, own)))
    if rule == "least":
        return are_image(labels, part, machine, same_letters(machine.width))
    return bear_out_quantifier(formula, machine, own, part, labels)


def turned(machine):
    """Return the list of the turned marks of a machine."""
    return [not mark for mark in machine.accepting]


def same_letters(width):
    """Return the list of the letters of a width."""
    return list(range(letters(width)))


def letters_beside(names, others):
    """Return for each letter for the names the one for other names, each of which is one of the names."""
    places = [names.index(name) for name in others]
    return [letter_of([digit(letter, place) for place in places]) for letter in range(letters(len(names)))]


def are_states(value, size):
    """Return True if a value of any kind is a tuple of states of a machine of this size."""
    return isinstance(value, tuple) and all([is_state(each, size) for each in value])


def lead(labels, machine, follow):
    """Return True if each letter leads from a state to one whose label is `follow(label, letter)`."""
    for label, row in zip(labels, machine.table):
        for letter, behind in enumerate(row):
            if labels[behind] != follow(label, letter):
                return False
    return True


def bear_out_comparison(formula, machine, labels):
    """Return True if labels bear out the machine of an equation or an inequality."""
    kind, term = formula
    pairs, constant = term
    if len(labels) != machine.size or not all([is_label(label, kind) for label in labels]):
        return False
    sums = weights([pair[1] for pair in pairs])

    def follow(label, letter):
        return label_behind(kind, label, sums[letter])

    marks = [is_accepting(kind, label) for label in labels]
    return labels[0] == -constant and marks == machine.accepting and lead(labels, machine, follow)


def is_label(value, kind):
    """Return True if a value of any kind may be a label of an equation or of an inequality."""
    if value is None:
        return kind == "eq"
    return isinstance(value, int) and not isinstance(value, bool)


def are_image(labels, machine, other, beside):
    """Return True if each label is a state of the other machine that goes along with a state of the machine.

    The other machine reads the letters that stand beside those of the machine.
    """
    if len(labels) != machine.size or not are_states(labels, other.size):
        return False

    def follow(label, letter):
        return other.table[label][beside[letter]]

    marks = [other.accepting[label] for label in labels]
    return labels[0] == 0 and marks == machine.accepting and lead(labels, machine, follow)


def bear_out_joint(rule, names, machine, pairs, labels):
    """Return True if labels bear out the machine of a formula that joins two."""
    one, two = pairs[0][1], pairs[1][1]
    if len(labels) != machine.size or not all([is_pair_of_states(label, one.size, two.size) for label in labels]):
        return False
    one_letters, two_letters = [letters_beside(names, pair[0]) for pair in pairs]

    def follow(label, letter):
        return (one.table[label[0]][one_letters[letter]], two.table[label[1]][two_letters[letter]])

    marks = [joined(rule, one.accepting[first], two.accepting[second]) for first, second in labels]
    return labels[0] == (0, 0) and marks == machine.accepting and lead(labels, machine, follow)


def is_pair_of_states(value, one_size, two_size):
    """Return True if a value of any kind is a pair of states of machines of these sizes."""
    if not isinstance(value, tuple) or len(value) != 2:
        return False
    return is_state(value[0], one_size) and is_state(value[1], two_size)


def bear_out_quantifier(formula, machine, own, part, labels):
    """Return True if labels bear out the machine of a quantifier over a part with its own names."""
    if len(labels) != 2:
        return False
    sets, ranks = labels
    choices = letters_by_choice(free_names(formula), formula[1], own)
    goals = part.accepting if formula[0] == "some" else turned(part)
    if not are_ranks(ranks, goals, part, choices[0]):
        return False
    if not isinstance(sets, tuple) or len(sets) != machine.size:
        return False
    if not all([is_ascending(members, part.size) for members in sets]):
        return False

    def follow(members, letter):
        return tuple(sorted({part.table[state][each] for state in members for each in choices[letter]}))

    found = [any([ranks[state] is not None for state in members]) for members in sets]
    marks = found if formula[0] == "some" else [not mark for mark in found]
    return sets[0] == (0,) and marks == machine.accepting and lead(sets, machine, follow)


def letters_by_choice(names, bound, own):
    """Return for each letter for the names the pair of the part's letters, by the digits 0 and 1 of the bound name."""
    # The bound name has the last track, so that its digit 1 is added to each letter for the names.
    wide = letters_beside([*names, bound], own)
    digit_one = letters(len(names))
    return [(wide[letter], wide[digit_one + letter]) for letter in range(digit_one)]


def is_ascending(value, size):
    """Return True if a value of any kind is an ascending tuple of different states of a machine of this size."""
    return are_states(value, size) and list(value) == sorted(set(value))


def are_ranks(value, goals, part, free):
    """Return True if a value of any kind has right ranks for the states, of which the goals are marked."""
    if not isinstance(value, tuple) or len(value) != part.size or not all([is_rank(rank) for rank in value]):
        return False
    for rank, goal, row in zip(value, goals, part.table):
        behind = [value[row[letter]] for letter in free]
        if not is_right_rank(rank, goal, behind):
            return False
    return True


def is_rank(value):
    """Return True if a value of any kind may be a rank."""
    return value is None or (isinstance(value, int) and not isinstance(value, bool) and value >= 0)


def is_right_rank(rank, goal, behind):
    """Return True if a rank of a state is right, which is a goal or not, with the ranks behind the free letters."""
    if rank is None:
        return not goal and behind == [None, None]
    return goal if rank == 0 else rank - 1 in behind
