"""The machines of equations and inequalities."""

from digitwise.digits import digit, letters
from digitwise.machine import Machine, check_width
from digitwise.search import reached


def equation(coefficients, constant):
    """Return the machine of an equation and the list of its labels."""
    return labelled("eq", coefficients, constant)


def at_most(coefficients, constant):
    """Return the machine of an inequality and the list of its labels."""
    return labelled("le", coefficients, constant)


def labelled(kind, coefficients, constant):
    """Return the machine of an equation ("eq") or an inequality ("le") and the list of its labels."""
    width = len(coefficients)
    # Asked before the letters are gone through, because too many tracks have far too many of them.
    check_width(width)
    sums = weights(coefficients)

    def follow(label, letter):
        return label_behind(kind, label, sums[letter])

    labels, table = reached(-constant, width, follow)
    return Machine(width, table, [is_accepting(kind, label) for label in labels]), labels


def weights(coefficients):
    """Return the list of the weighted sums of the digits of each letter."""
    return [
        sum([coefficient * digit(letter, track) for track, coefficient in enumerate(coefficients)])
        for letter in range(letters(len(coefficients)))
    ]


def label_behind(kind, label, weight):
    """Return the label behind a label by a letter with this weighted sum."""
    if kind == "eq" and (label is None or (label - weight) % 2 != 0):
        return None
    return (label - weight) // 2


def is_accepting(kind, label):
    """Return True if the states with this label are accepting."""
    return label == 0 if kind == "eq" else label >= 0
