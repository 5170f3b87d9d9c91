"""Tests of points 10.1 and 10.2."""

import itertools
import unittest

from digitwise.digits import digit, letter_of, letters, numbers_of, with_track, without_track, word_of

WIDTHS = range(7)


class Letters(unittest.TestCase):
    def test_how_many_there_are(self):
        self.assertEqual([letters(width) for width in WIDTHS], [1, 2, 4, 8, 16, 32, 64])

    def test_the_digit_of_a_track_has_the_value_1_shifted_by_it(self):
        self.assertEqual([digit(6, track) for track in range(4)], [0, 1, 1, 0])
        self.assertEqual([digit(0, track) for track in range(6)], [0] * 6)
        self.assertEqual([digit(63, track) for track in range(6)], [1] * 6)
        for track in range(6):
            digits = [digit(1 << track, other) for other in range(6)]
            self.assertEqual(digits, [int(other == track) for other in range(6)])

    def test_letter_of(self):
        self.assertEqual(letter_of([]), 0)
        self.assertEqual(letter_of([0]), 0)
        self.assertEqual(letter_of([1]), 1)
        self.assertEqual(letter_of([0, 1]), 2)
        self.assertEqual(letter_of([1, 0]), 1)
        self.assertEqual(letter_of([0, 0, 0, 0, 0, 1]), 32)

    def test_letter_of_and_digit_fit(self):
        for width in WIDTHS:
            found = [letter_of(list(digits)) for digits in itertools.product([0, 1], repeat=width)]
            self.assertEqual(sorted(found), list(range(letters(width))))
            for letter in range(letters(width)):
                self.assertEqual(letter_of([digit(letter, track) for track in range(width)]), letter)

    def test_letter_of_leaves_its_argument(self):
        digits = [1, 0, 1]
        self.assertEqual(letter_of(digits), 5)
        self.assertEqual(digits, [1, 0, 1])


class Words(unittest.TestCase):
    def test_the_example(self):
        self.assertEqual(word_of((6, 1)), [2, 1, 1])

    def test_words_of_single_numbers(self):
        for number, word in [(0, []), (1, [1]), (2, [0, 1]), (3, [1, 1]), (6, [0, 1, 1]), (8, [0, 0, 0, 1])]:
            self.assertEqual(word_of((number,)), word)
            self.assertEqual(word_of([number]), word)

    def test_words_of_tuples(self):
        self.assertEqual(word_of(()), [])
        self.assertEqual(word_of([]), [])
        self.assertEqual(word_of((0, 0)), [])
        self.assertEqual(word_of((0, 1)), [2])
        self.assertEqual(word_of((1, 0)), [1])
        self.assertEqual(word_of((1, 0, 4)), [1, 0, 4])
        self.assertEqual(word_of((63,) * 6), [63] * 6)

    def test_the_word_is_a_list(self):
        self.assertIs(type(word_of((3, 1))), list)
        self.assertIs(type(word_of(())), list)

    def test_a_word_is_empty_or_ends_with_a_letter_that_is_not_0(self):
        for numbers in itertools.product(range(9), repeat=2):
            word = word_of(numbers)
            self.assertTrue(word == [] or word[-1] != 0)
            self.assertEqual(len(word), max([len(bin(number)) - 2 if number else 0 for number in numbers]))

    def test_each_digit_stands_on_its_track(self):
        for numbers in itertools.product([0, 1, 5, 6, 19], repeat=3):
            for place, letter in enumerate(word_of(numbers)):
                digits = [digit(letter, track) for track in range(3)]
                self.assertEqual(digits, [number >> place & 1 for number in numbers])

    def test_numbers_of_words(self):
        self.assertEqual(numbers_of([2, 1, 1], 2), (6, 1))
        self.assertEqual(numbers_of([], 0), ())
        self.assertEqual(numbers_of([0, 0], 0), ())
        self.assertEqual(numbers_of([], 3), (0, 0, 0))
        self.assertEqual(numbers_of([0, 1, 1], 1), (6,))
        self.assertIs(type(numbers_of([1], 1)), tuple)

    def test_a_letter_0_at_the_end_changes_nothing(self):
        self.assertEqual(numbers_of([2, 1, 1, 0], 2), (6, 1))
        self.assertEqual(numbers_of([2, 1, 1, 0, 0, 0], 2), (6, 1))
        self.assertEqual(numbers_of([0], 1), (0,))
        self.assertEqual(numbers_of([0, 2, 1, 1], 2), (12, 2))

    def test_there_and_back(self):
        for width in range(4):
            for numbers in itertools.product([0, 1, 2, 7, 12, 255], repeat=width):
                self.assertEqual(numbers_of(word_of(numbers), width), numbers)
                self.assertEqual(word_of(list(numbers)), word_of(numbers))
        for word in [[1], [0, 0, 3], [3, 0, 2], [2, 1, 0, 1]]:
            self.assertEqual(word_of(numbers_of(word, 2)), word)

    def test_large_numbers(self):
        numbers = (10 ** 60, 3 ** 50, 2 ** 200)
        self.assertEqual(len(word_of(numbers)), 201)
        self.assertEqual(numbers_of(word_of(numbers), 3), numbers)

    def test_the_arguments_stay_as_they_were(self):
        numbers, word = [6, 1], [2, 1, 1, 0]
        word_of(numbers)
        numbers_of(word, 2)
        self.assertEqual((numbers, word), ([6, 1], [2, 1, 1, 0]))


class Tracks(unittest.TestCase):
    def test_the_example(self):
        self.assertEqual(with_track(3, 1, 0), 5)

    def test_a_track_put_in(self):
        self.assertEqual(with_track(0, 0, 0), 0)
        self.assertEqual(with_track(0, 0, 1), 1)
        self.assertEqual(with_track(3, 0, 0), 6)
        self.assertEqual(with_track(3, 0, 1), 7)
        self.assertEqual(with_track(3, 2, 0), 3)
        self.assertEqual(with_track(3, 2, 1), 7)

    def test_a_track_taken_out(self):
        self.assertEqual(without_track(5, 1), 3)
        self.assertEqual(without_track(7, 1), 3)
        self.assertEqual(without_track(6, 0), 3)
        self.assertEqual(without_track(1, 0), 0)
        self.assertEqual(without_track(7, 2), 3)

    def test_all_letters(self):
        for width in range(6):
            for letter in range(letters(width)):
                digits = [digit(letter, track) for track in range(width)]
                for track in range(width + 1):
                    for value in (0, 1):
                        longer = with_track(letter, track, value)
                        wanted = [*digits[:track], value, *digits[track:]]
                        self.assertEqual([digit(longer, each) for each in range(width + 1)], wanted)
                        self.assertEqual(longer, letter_of(wanted))
                        self.assertEqual(without_track(longer, track), letter)


if __name__ == "__main__":
    unittest.main()
