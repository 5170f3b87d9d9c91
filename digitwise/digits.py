"""Letters and words: the binary digits of tuples of numbers."""


def letters(width):
    """Return the number of letters of a width."""
    return 1 << width


def digit(letter, track):
    """Return the digit of a letter on a track."""
    return (letter >> track) & 1


def letter_of(digits):
    """Return the letter with these digits, track 0 first."""
    return sum([value << track for track, value in enumerate(digits)])


def word_of(numbers):
    """Return the word of a tuple or list of numbers."""
    length = max([number.bit_length() for number in numbers], default=0)
    return [letter_of([digit(number, place) for number in numbers]) for place in range(length)]


def numbers_of(word, width):
    """Return the tuple of the numbers that a word stands for."""
    # The digits of a number have the values of the tracks of a letter, so `letter_of` adds them up.
    return tuple([letter_of([digit(letter, track) for letter in word]) for track in range(width)])


def with_track(letter, track, value):
    """Return a letter with one more track, on which a digit is put in."""
    before = letter & ((1 << track) - 1)
    return before | (value << track) | ((letter >> track) << (track + 1))


def without_track(letter, track):
    """Return a letter without one of its tracks."""
    before = letter & ((1 << track) - 1)
    return before | ((letter >> (track + 1)) << track)
