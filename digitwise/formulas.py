"""Formulas: their form, their names, renaming and texts."""

from digitwise.lexer import is_name, is_word
from digitwise.terms import is_term, rename_term, show_term

NODE_LIMIT = 200
LEVEL_LIMIT = 30
OUTPUT_LIMIT = 9

# How many items the tuple of each kind of node has.
LENGTHS = {
    "eq": 2, "le": 2, "pow": 2, "word": 4, "not": 2, "and": 3, "or": 3,
    "imp": 3, "iff": 3, "some": 3, "all": 3, "call": 3,
}
COMPARISONS = {"eq": "=", "le": "<="}
JOINTS = {"and": "&", "or": "|", "imp": "=>", "iff": "<=>"}
QUANTIFIERS = ("some", "all")


def is_formula(value):
    """Return True if a value of any kind is a formula."""
    # The limits are asked on the way, because a value of any kind may be too deep or too large to go through.
    waiting = [(value, 1)]
    count = 0
    while waiting:
        node, level = waiting.pop()
        count += 1
        if count > NODE_LIMIT or level > LEVEL_LIMIT or not is_node(node):
            return False
        waiting.extend([(part, level + 1) for part in parts(node)])
    return True


def is_node(value):
    """Return True if a value of any kind is a formula as far as its parts are not asked."""
    if not isinstance(value, tuple) or len(value) == 0 or not isinstance(value[0], str):
        return False
    kind = value[0]
    if kind not in LENGTHS or len(value) != LENGTHS[kind]:
        return False
    if kind in COMPARISONS:
        return is_term(value[1])
    if kind == "pow" or kind in QUANTIFIERS:
        return is_name(value[1])
    if kind == "word":
        return is_word(value[1]) and is_name(value[2]) and is_output(value[3])
    if kind == "call":
        return is_name(value[1]) and are_names(value[2])
    return True


def is_output(value):
    """Return True if a value of any kind is an output of a word."""
    return isinstance(value, int) and not isinstance(value, bool) and 0 <= value <= OUTPUT_LIMIT


def are_names(value):
    """Return True if a value of any kind is a tuple of at least one name."""
    return isinstance(value, tuple) and len(value) > 0 and all([is_name(name) for name in value])


def parts(formula):
    """Return the list of the formulas that a formula is directly made of."""
    kind = formula[0]
    if kind == "not":
        return [formula[1]]
    if kind in JOINTS:
        return [formula[1], formula[2]]
    if kind in QUANTIFIERS:
        return [formula[2]]
    return []


def own_names(formula):
    """Return the list of the names that a formula has outside of its parts."""
    kind = formula[0]
    if kind in COMPARISONS:
        return [pair[0] for pair in formula[1][0]]
    if kind == "pow" or kind in QUANTIFIERS:
        return [formula[1]]
    if kind == "word":
        return [formula[2]]
    if kind == "call":
        return list(formula[2])
    return []


def nodes(formula):
    """Return the list of the pairs of each node of a formula and its level, from the left, a node before its parts."""
    # Without recursion, because a text may have far more levels before they are refused.
    found = []
    waiting = [(formula, 1)]
    while waiting:
        node, level = waiting.pop()
        found.append((node, level))
        waiting.extend([(part, level + 1) for part in reversed(parts(node))])
    return found


def node_count(formula):
    """Return the number of nodes of a formula."""
    return len(nodes(formula))


def levels(formula):
    """Return the number of levels of a formula."""
    return max([level for _, level in nodes(formula)])


def all_names(formula):
    """Return the ascending list of all names of a formula, those of quantifiers included."""
    found = set()
    for node, _ in nodes(formula):
        for name in own_names(node):
            found.add(name)
    return sorted(found)


def free_names(formula):
    """Return the ascending list of the free names of a formula."""
    found = set()
    waiting = [(formula, ())]
    while waiting:
        node, bound = waiting.pop()
        if node[0] in QUANTIFIERS:
            bound = (*bound, node[1])
        for name in own_names(node):
            if name not in bound:
                found.add(name)
        waiting.extend([(part, bound) for part in parts(node)])
    return sorted(found)


def rename(formula, names):
    """Return a formula with the free names that are keys of a dict replaced by their entries."""
    kind = formula[0]
    if kind in COMPARISONS:
        return (kind, rename_term(formula[1], names))
    if kind == "pow":
        return (kind, names.get(formula[1], formula[1]))
    if kind == "word":
        return (kind, formula[1], names.get(formula[2], formula[2]), formula[3])
    if kind == "call":
        return (kind, formula[1], tuple([names.get(name, name) for name in formula[2]]))
    if kind in QUANTIFIERS:
        return rename_quantified(formula, names)
    return (kind, *[rename(part, names) for part in parts(formula)])


def rename_quantified(formula, names):
    """Return what `rename` returns for a formula that begins with a quantifier."""
    kind, bound, part = formula
    kept = {name: names[name] for name in free_names(formula) if name in names}
    new = list(kept.values())
    if bound in new:
        fresh = fresh_name([*all_names(formula), *new])
        part = rename(part, {bound: fresh})
        bound = fresh
    return (kind, bound, rename(part, kept))


def fresh_name(taken):
    """Return the first of v0, v1, .. that is not in a list of names."""
    index = 0
    while f"v{index}" in taken:
        index += 1
    return f"v{index}"


def show_formula(formula):
    """Return the text of a formula."""
    kind = formula[0]
    if kind in COMPARISONS:
        return f"{show_term(formula[1])} {COMPARISONS[kind]} 0"
    if kind == "pow":
        return f"pow({formula[1]})"
    if kind == "word":
        return f"{formula[1]}[{formula[2]}] = {formula[3]}"
    if kind == "call":
        names = ", ".join(formula[2])
        return f"{formula[1]}({names})"
    if kind == "not":
        return f"~{show_unit(formula[1])}"
    if kind in QUANTIFIERS:
        return f"({kind} {formula[1]}: {show_formula(formula[2])})"
    return f"({show_formula(formula[1])} {JOINTS[kind]} {show_formula(formula[2])})"


def show_unit(formula):
    """Return the text of a formula as it stands behind `~`."""
    text = show_formula(formula)
    return f"({text})" if formula[0] in COMPARISONS or formula[0] == "word" else text
