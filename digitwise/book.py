"""Books: definitions and words under their names."""

from digitwise.errors import Clashing, Misused, Unknown
from digitwise.formulas import free_names, nodes


class Book:
    """The definitions and the words that formulas may speak of."""

    def __init__(self):
        self._definitions = {}
        self._words = {}

    def define(self, name, parameters, formula):
        """Add a definition."""
        if self.has_definition(name):
            raise Clashing(name)
        for at, parameter in enumerate(parameters):
            if parameter in parameters[:at]:
                raise Clashing(parameter)
        check_formula(self, formula)
        for free in free_names(formula):
            if free not in parameters:
                raise Unknown(free)
        self._definitions[name] = (tuple(parameters), formula)

    def tell(self, word, told):
        """Add a word."""
        if self.has_word(word):
            raise Clashing(word)
        self._words[word] = told

    def parameters(self, name):
        """Return the tuple of the parameters of a definition."""
        if not self.has_definition(name):
            raise Unknown(name)
        return self._definitions[name][0]

    def formula(self, name):
        """Return the formula of a definition."""
        if not self.has_definition(name):
            raise Unknown(name)
        return self._definitions[name][1]

    def told(self, word):
        """Return what tells a word."""
        if not self.has_word(word):
            raise Unknown(word)
        return self._words[word]

    def has_definition(self, name):
        """Return True if there is a definition of this name."""
        return name in self._definitions

    def has_word(self, word):
        """Return True if there is this word."""
        return word in self._words

    def definitions(self):
        """Return the list of the names of the definitions in the order of adding."""
        return list(self._definitions)

    def words(self):
        """Return the list of the words in the order of adding."""
        return list(self._words)


def check_formula(book, formula):
    """Raise an error if a formula has a word or a call that does not fit a book."""
    for node, _ in nodes(formula):
        if node[0] == "word" and not book.has_word(node[1]):
            raise Unknown(node[1])
        if node[0] == "call" and len(node[2]) != len(book.parameters(node[1])):
            raise Misused("count")
