"""Reading the texts of formulas and books."""

from digitwise.book import Book
from digitwise.errors import Malformed, Oversized
from digitwise.formulas import LEVEL_LIMIT, NODE_LIMIT, OUTPUT_LIMIT, levels, node_count
from digitwise.lexer import tokens
from digitwise.terms import linear, minus, plus
from digitwise.told import Told

COMPARED = ("=", "!=", "<", "<=", ">", ">=")


class Reader:
    """The tokens of a text and the place of the one that is read next."""

    def __init__(self, text):
        self.found = tokens(text)
        self.length = len(text)
        self.place = 0

    def is_done(self):
        """Return True if all tokens have been read."""
        return self.place == len(self.found)

    def spot(self):
        """Return the index of the next token in the text, or the length of the text if there is none."""
        return self.length if self.is_done() else self.found[self.place][2]

    def has_kind(self, kind):
        """Return True if the next token is of this kind."""
        return not self.is_done() and self.found[self.place][0] == kind

    def sees(self, value, ahead=0):
        """Return True if the next token, or one further ahead, is this sign or reserved word."""
        place = self.place + ahead
        return place < len(self.found) and self.found[place][1] == value

    def passes(self, value):
        """Read the next token if it is this sign or reserved word, and return True if it is."""
        seen = self.sees(value)
        if seen:
            self.place += 1
        return seen

    def skip(self, value):
        """Read the next token, which must be this sign or reserved word."""
        if not self.passes(value):
            raise Malformed(self.spot())

    def take(self, kind):
        """Read the next token, which must be of this kind, and return its value."""
        if not self.has_kind(kind):
            raise Malformed(self.spot())
        value = self.found[self.place][1]
        self.place += 1
        return value


def parse_formula(text):
    """Return the formula that a whole text is."""
    reader = Reader(text)
    formula = read_formula(reader, 1)
    if not reader.is_done():
        raise Malformed(reader.spot())
    check_size(formula)
    return formula


def parse_book(text):
    """Return the book that a whole text is."""
    reader = Reader(text)
    book = Book()
    while not reader.is_done():
        if reader.sees("def"):
            read_definition(reader, book)
        else:
            read_told(reader, book)
    return book


def check_size(formula):
    """Raise an error if a formula has too many nodes or levels."""
    if node_count(formula) > NODE_LIMIT or levels(formula) > LEVEL_LIMIT:
        raise Oversized("nodes")


def read_definition(reader, book):
    """Read a definition and add it to a book."""
    reader.skip("def")
    name = reader.take("name")
    reader.skip("(")
    parameters = [] if reader.sees(")") else read_names(reader)
    reader.skip(")")
    reader.skip(":")
    formula = read_formula(reader, 1)
    reader.skip(";")
    check_size(formula)
    book.define(name, tuple(parameters), formula)


def read_told(reader, book):
    """Read what tells a word and add it to a book."""
    reader.skip("told")
    word = reader.take("word")
    reader.skip("{")
    outputs = []
    table = []
    while not reader.sees("}"):
        output, row = read_state(reader, len(outputs))
        outputs.append(output)
        table.append(row)
    reader.skip("}")
    reader.skip(";")
    book.tell(word, Told(outputs, table))


def read_state(reader, index):
    """Read a state, whose number must be this index, and return its output and its two successors."""
    at = reader.spot()
    if reader.take("number") != index:
        raise Malformed(at)
    reader.skip(":")
    output = read_output(reader)
    reader.skip("->")
    zero = reader.take("number")
    one = reader.take("number")
    reader.skip(";")
    return output, [zero, one]


def read_output(reader):
    """Read an output of a word and return it."""
    at = reader.spot()
    output = reader.take("number")
    if output > OUTPUT_LIMIT:
        raise Malformed(at)
    return output


def read_names(reader):
    """Read one or more names with commas between them and return their list."""
    names = [reader.take("name")]
    while reader.passes(","):
        names.append(reader.take("name"))
    return names


def read_formula(reader, level):
    """Read a formula that stands at a level and return it."""
    formula = read_implied(reader, level)
    if reader.passes("<=>"):
        return ("iff", formula, read_implied(reader, level))
    return formula


def read_implied(reader, level):
    """Read a formula without `<=>` outside of its parts and return it."""
    formula = read_either(reader, level)
    if reader.passes("=>"):
        return ("imp", formula, read_either(reader, level))
    return formula


def read_either(reader, level):
    """Read one or more formulas with `|` between them and return their formula."""
    formula = read_both(reader, level)
    while reader.passes("|"):
        formula = ("or", formula, read_both(reader, level))
    return formula


def read_both(reader, level):
    """Read one or more units with `&` between them and return their formula."""
    formula = read_unit(reader, level)
    while reader.passes("&"):
        formula = ("and", formula, read_unit(reader, level))
    return formula


def read_unit(reader, level):
    """Read a unit that stands at a level and return its formula."""
    # Each part begins with a unit, so this is asked at the first token of each part.
    if level > LEVEL_LIMIT:
        raise Oversized("depth")
    if reader.passes("~"):
        return ("not", read_unit(reader, level + 1))
    if reader.passes("("):
        formula = read_formula(reader, level + 1)
        reader.skip(")")
        return formula
    if reader.sees("some") or reader.sees("all"):
        return read_quantified(reader, level)
    if reader.sees("pow"):
        return read_power(reader)
    if reader.has_kind("word"):
        return read_word(reader)
    if reader.has_kind("name") and reader.sees("(", 1):
        return read_call(reader)
    return read_comparison(reader)


def read_quantified(reader, level):
    """Read a formula that begins with a quantifier and return it."""
    quantifier = reader.take("reserved")
    names = read_names(reader)
    reader.skip(":")
    formula = read_formula(reader, level + 1)
    for name in reversed(names):
        formula = (quantifier, name, formula)
    return formula


def read_power(reader):
    """Read what says that a number is a power of two and return its formula."""
    reader.skip("pow")
    reader.skip("(")
    name = reader.take("name")
    reader.skip(")")
    return ("pow", name)


def read_word(reader):
    """Read what says that a word has an output, or has not, and return its formula."""
    word = reader.take("word")
    reader.skip("[")
    name = reader.take("name")
    reader.skip("]")
    is_other = reader.passes("!=")
    if not is_other:
        reader.skip("=")
    formula = ("word", word, name, read_output(reader))
    return ("not", formula) if is_other else formula


def read_call(reader):
    """Read a call and return its formula."""
    name = reader.take("name")
    reader.skip("(")
    names = read_names(reader)
    reader.skip(")")
    return ("call", name, tuple(names))


def read_comparison(reader):
    """Read a comparison of two terms and return its formula."""
    left = read_sum(reader)
    at = reader.spot()
    sign = reader.take("sign")
    if sign not in COMPARED:
        raise Malformed(at)
    right = read_sum(reader)
    # Only now, because nothing may be refused as too large before the last token has been read.
    return compared(linear(left[0], left[1]), sign, linear(right[0], right[1]))


def compared(one, sign, two):
    """Return the formula that compares two terms."""
    if sign == "=":
        return ("eq", minus(one, two))
    if sign == "!=":
        return ("not", ("eq", minus(one, two)))
    difference = minus(one, two) if sign in ("<", "<=") else minus(two, one)
    return ("le", plus(difference, ((), 1)) if sign in ("<", ">") else difference)


def read_sum(reader):
    """Read a term and return the list of its pairs and the sum of its constants, as they stand in the text."""
    pairs = []
    constant = 0
    sign = -1 if reader.passes("-") else 1
    while sign != 0:
        name, factor = read_part(reader)
        if name is None:
            constant += sign * factor
        else:
            pairs.append((name, sign * factor))
        sign = read_sign(reader)
    return pairs, constant


def read_sign(reader):
    """Read the sign in front of a further part and return 1 or -1, or 0 if there is none."""
    if reader.passes("+"):
        return 1
    return -1 if reader.passes("-") else 0


def read_part(reader):
    """Read a part of a term and return its name, or None for a constant, and its factor."""
    if reader.has_kind("name"):
        return reader.take("name"), 1
    factor = reader.take("number")
    if reader.passes("*"):
        return reader.take("name"), factor
    return None, factor
