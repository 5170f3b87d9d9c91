"""Tokens of texts, and what counts as a name or a word."""

from digitwise.errors import Malformed, Oversized

TEXT_LIMIT = 4000
LENGTH_LIMIT = 12
NUMBER_LIMIT = 255

RESERVED = ("all", "def", "pow", "some", "told")

# Longer signs stand before those that they begin with, so the first that fits is the longest.
SIGNS = (
    "<=>", "=>", "->", "<=", ">=", "!=", "=", "<", ">", "+", "-", "*",
    "~", "&", "|", "(", ")", "[", "]", "{", "}", ",", ":", ";",
)

# Written out, because str.islower and the like also take letters and digits of other scripts.
LOWER = "abcdefghijklmnopqrstuvwxyz"
UPPER = "ABCDEFGHIJKLMNOPQRSTUVWXYZ"
DIGITS = "0123456789"


def tokens(text):
    """Return the list of all tokens `(kind, value, at)` of a text."""
    if len(text) > TEXT_LIMIT:
        raise Oversized("text")
    found = []
    at = 0
    while at < len(text):
        if text[at] in " \n":
            at += 1
        else:
            kind, value, end = token_at(text, at)
            found.append((kind, value, at))
            at = end
    return found


def is_name(value):
    """Return True if a value of any kind is a name."""
    return is_run(value, LOWER) and value not in RESERVED


def is_word(value):
    """Return True if a value of any kind is a word."""
    return is_run(value, UPPER)


def is_run(value, letters):
    """Return True if a value is a string of these letters and digits, a letter first, and not too long."""
    if not isinstance(value, str) or not 1 <= len(value) <= LENGTH_LIMIT:
        return False
    return value[0] in letters and run_end(value, 0, letters + DIGITS) == len(value)


def token_at(text, at):
    """Return the kind, the value and the end of the token that begins at an index."""
    if text[at] in LOWER:
        return name_at(text, at)
    if text[at] in UPPER:
        return word_at(text, at)
    if text[at] in DIGITS:
        return number_at(text, at)
    return sign_at(text, at)


def name_at(text, at):
    """Return the parts of a name or a reserved word."""
    end = run_end(text, at, LOWER + DIGITS)
    if end - at > LENGTH_LIMIT or stands_at(text, end, UPPER):
        raise Malformed(at)
    value = text[at:end]
    kind = "reserved" if value in RESERVED else "name"
    return kind, value, end


def word_at(text, at):
    """Return the parts of a word."""
    end = run_end(text, at, UPPER + DIGITS)
    if end - at > LENGTH_LIMIT or stands_at(text, end, LOWER):
        raise Malformed(at)
    return "word", text[at:end], end


def number_at(text, at):
    """Return the parts of a number."""
    end = run_end(text, at, DIGITS)
    leading_zero = text[at] == "0" and end - at > 1
    if leading_zero or stands_at(text, end, LOWER + UPPER) or int(text[at:end]) > NUMBER_LIMIT:
        raise Malformed(at)
    return "number", int(text[at:end]), end


def sign_at(text, at):
    """Return the parts of a sign."""
    for sign in SIGNS:
        if text.startswith(sign, at):
            return "sign", sign, at + len(sign)
    raise Malformed(at)


def run_end(text, at, characters):
    """Return the index behind the run of these characters that begins at an index."""
    while stands_at(text, at, characters):
        at += 1
    return at


def stands_at(text, at, characters):
    """Return True if one of these characters stands at an index, which may be the end of the text."""
    return at < len(text) and text[at] in characters
