"""Tests of points 2.1, 2.2 and 2.3."""

import string
import unittest

from digitwise.errors import Malformed, Oversized
from digitwise.lexer import RESERVED, is_name, tokens

SIGNS = [
    "<=>", "=>", "->", "<=", ">=", "!=", "=", "<", ">", "+", "-", "*",
    "~", "&", "|", "(", ")", "[", "]", "{", "}", ",", ":", ";",
]


class Tokens(unittest.TestCase):
    def test_the_example(self):
        self.assertEqual(tokens("x<=>T[y]"), [
            ("name", "x", 0), ("sign", "<=>", 1), ("word", "T", 4),
            ("sign", "[", 5), ("name", "y", 6), ("sign", "]", 7),
        ])

    def test_texts_without_tokens(self):
        for text in ["", " ", "\n", " \n\n  "]:
            self.assertEqual(tokens(text), [])

    def test_it_returns_a_list_of_tuples(self):
        found = tokens("x 1")
        self.assertIs(type(found), list)
        self.assertEqual([type(token) for token in found], [tuple, tuple])

    def test_reserved_words(self):
        self.assertEqual(RESERVED, ("all", "def", "pow", "some", "told"))
        for word in RESERVED:
            self.assertEqual(tokens(word), [("reserved", word, 0)])
            self.assertEqual(tokens(f" {word}\n"), [("reserved", word, 1)])
            self.assertEqual(tokens(f"({word})"), [
                ("sign", "(", 0), ("reserved", word, 1), ("sign", ")", len(word) + 1),
            ])

    def test_names_that_begin_or_end_like_reserved_words(self):
        for word in RESERVED:
            for name in [word + "x", word + "1", word + word, word[:-1], "x" + word]:
                self.assertEqual(tokens(name), [("name", name, 0)])

    def test_reserved_words_in_capitals_are_words(self):
        self.assertEqual(tokens("ALL POW"), [("word", "ALL", 0), ("word", "POW", 4)])

    def test_names(self):
        for name in ["a", "z", "x1", "v0", "a9z", "x00", "abcdefghijkl", "a12345678901"]:
            self.assertEqual(tokens(name), [("name", name, 0)])

    def test_words(self):
        for word in ["A", "Z", "T1", "A9Z", "T00", "ABCDEFGHIJKL", "A12345678901"]:
            self.assertEqual(tokens(word), [("word", word, 0)])

    def test_numbers(self):
        for number in [0, 1, 9, 10, 99, 100, 199, 200, 249, 250, 255]:
            found = tokens(str(number))
            self.assertEqual(found, [("number", number, 0)])
            self.assertIs(type(found[0][1]), int)

    def test_each_sign(self):
        for sign in SIGNS:
            self.assertEqual(tokens(sign), [("sign", sign, 0)])
            self.assertEqual(tokens(f"x{sign}1"), [("name", "x", 0), ("sign", sign, 1), ("number", 1, 1 + len(sign))])

    def test_two_signs_apart(self):
        for one in SIGNS:
            for two in SIGNS:
                for between in [" ", "\n", "  \n"]:
                    self.assertEqual(
                        tokens(one + between + two),
                        [("sign", one, 0), ("sign", two, len(one) + len(between))],
                    )

    def test_two_signs_side_by_side_give_the_longest_first(self):
        for one in SIGNS:
            for two in SIGNS:
                text = one + two
                first = max([sign for sign in SIGNS if text.startswith(sign)], key=len)
                self.assertEqual(tokens(text)[0], ("sign", first, 0))

    def test_the_longest_sign_that_fits(self):
        cases = {
            "<=>": ["<=>"],
            "<= >": ["<=", ">"],
            "< =>": ["<", "=>"],
            "<=>=": ["<=>", "="],
            "<==>": ["<=", "=>"],
            "<>": ["<", ">"],
            "<->": ["<", "->"],
            "-->": ["-", "->"],
            "->=": ["->", "="],
            "=>>": ["=>", ">"],
            "==>": ["=", "=>"],
            ">=>": [">=", ">"],
            "!==": ["!=", "="],
            "!=>": ["!=", ">"],
            "<<=": ["<", "<="],
            ">>=": [">", ">="],
            "~~&&||": ["~", "~", "&", "&", "|", "|"],
        }
        for text, signs in cases.items():
            self.assertEqual([value for _, value, _ in tokens(text)], signs, text)

    def test_tokens_side_by_side(self):
        self.assertEqual(tokens("3*x-T[y1]!=12"), [
            ("number", 3, 0), ("sign", "*", 1), ("name", "x", 2), ("sign", "-", 3), ("word", "T", 4),
            ("sign", "[", 5), ("name", "y1", 6), ("sign", "]", 8), ("sign", "!=", 9), ("number", 12, 11),
        ])

    def test_tokens_apart(self):
        self.assertEqual(tokens("  some x \n:\n\npow ( x )  "), [
            ("reserved", "some", 2), ("name", "x", 7), ("sign", ":", 10), ("reserved", "pow", 13),
            ("sign", "(", 17), ("name", "x", 19), ("sign", ")", 21),
        ])

    def test_spaces_and_newlines_separate(self):
        self.assertEqual(tokens("a b\nc"), [("name", "a", 0), ("name", "b", 2), ("name", "c", 4)])
        self.assertEqual(tokens("x T"), [("name", "x", 0), ("word", "T", 2)])
        self.assertEqual(tokens("T\nx"), [("word", "T", 0), ("name", "x", 2)])
        self.assertEqual(tokens("0 1 x"), [("number", 0, 0), ("number", 1, 2), ("name", "x", 4)])
        self.assertEqual(tokens("25 5"), [("number", 25, 0), ("number", 5, 3)])
        self.assertEqual(tokens("so me"), [("name", "so", 0), ("name", "me", 3)])

    def test_tokens_without_a_space_between(self):
        self.assertEqual(tokens("x)y(1]Z"), [
            ("name", "x", 0), ("sign", ")", 1), ("name", "y", 2), ("sign", "(", 3),
            ("number", 1, 4), ("sign", "]", 5), ("word", "Z", 6),
        ])


class MalformedTexts(unittest.TestCase):
    def refused_at(self, text, at):
        with self.subTest(text=text):
            with self.assertRaises(Malformed) as caught:
                tokens(text)
            self.assertEqual(caught.exception.at, at)

    def refused_also_behind_others(self, token):
        self.refused_at(token, 0)
        self.refused_at(" \n" + token, 2)
        self.refused_at("x <= 3 &" + token, 8)
        self.refused_at("T[x]=0\n" + token + " & 007", 7)
        self.refused_at("(" + token + ")", 1)

    def test_other_characters(self):
        for character in "!_./?#$@^'\"\\`\t\r\f\v\0\x7f":
            self.refused_also_behind_others(character)

    def test_characters_of_other_scripts(self):
        for character in "\u00e9\u00c9\u00df\u03b1\u0661\u00b2\uff11\uff21\u00a0\u2028\u2264\U0001d7ce":
            self.refused_also_behind_others(character)

    def test_an_other_character_directly_behind_a_token(self):
        self.refused_at("x_1", 1)
        self.refused_at("T.", 1)
        self.refused_at("12.5", 2)
        self.refused_at("some\tx", 4)
        self.refused_at("x\r\n", 1)
        self.refused_at("=!", 1)
        self.refused_at("x\u00e9", 1)
        self.refused_at("T\u00c9", 1)
        self.refused_at("1\u00b2", 1)

    def test_an_exclamation_mark_and_an_equals_sign_apart(self):
        self.refused_at("x ! = 1", 2)

    def test_names_that_are_too_long(self):
        self.refused_also_behind_others("abcdefghijklm")
        self.refused_also_behind_others("a123456789012")
        self.refused_also_behind_others("x" * 100)
        self.refused_at("abcdefghijkl abcdefghijklm", 13)

    def test_words_that_are_too_long(self):
        self.refused_also_behind_others("ABCDEFGHIJKLM")
        self.refused_also_behind_others("A123456789012")
        self.refused_also_behind_others("X" * 100)

    def test_names_followed_by_a_capital(self):
        for token in ["xY", "x1Y", "aZ", "zA", "abcdefghijklA", "abcdefghijklmA"]:
            self.refused_also_behind_others(token)

    def test_reserved_words_followed_by_a_capital(self):
        for word in RESERVED:
            self.refused_also_behind_others(word + "X")

    def test_words_followed_by_a_small_letter(self):
        for token in ["Ta", "T1z", "All", "ABCDEFGHIJKLa"]:
            self.refused_also_behind_others(token)

    def test_each_letter_directly_behind(self):
        for letter in string.ascii_lowercase:
            for token in ["T", "T1", "1", "255"]:
                self.refused_at(token + letter, 0)
            self.assertEqual(tokens("x" + letter), [("name", "x" + letter, 0)])
        for letter in string.ascii_uppercase:
            for token in ["x", "x1", "1", "255"]:
                self.refused_at(token + letter, 0)
            self.assertEqual(tokens("T" + letter), [("word", "T" + letter, 0)])
        for digit in string.digits:
            self.assertEqual(tokens("x" + digit), [("name", "x" + digit, 0)])
            self.assertEqual(tokens("T" + digit), [("word", "T" + digit, 0)])

    def test_numbers_that_are_too_large(self):
        for token in ["256", "260", "300", "999", "1000", "1" + "0" * 50]:
            self.refused_also_behind_others(token)

    def test_a_number_as_long_as_a_text(self):
        self.refused_at("9" * 4000, 0)

    def test_numbers_with_a_leading_zero(self):
        for token in ["00", "01", "007", "0255", "000"]:
            self.refused_also_behind_others(token)

    def test_numbers_followed_by_a_letter(self):
        for token in ["0x", "1a", "2z", "3A", "255Z", "12x1"]:
            self.refused_also_behind_others(token)

    def test_the_first_one_counts(self):
        self.refused_at("x 256 ! 00", 2)
        self.refused_at("! 256", 0)

    def test_the_length_is_asked_first(self):
        for text in [" " * 4001, "!" * 4001, "x" * 4001, "(" * 4001, " " * 4000 + "!", "x " * 2500]:
            with self.assertRaises(Oversized) as caught:
                tokens(text)
            self.assertEqual(caught.exception.limit, "text")

    def test_the_longest_texts(self):
        self.assertEqual(tokens(" " * 4000), [])
        self.assertEqual(tokens("(" * 4000), [("sign", "(", at) for at in range(4000)])
        self.assertEqual(tokens("x " * 2000), [("name", "x", at) for at in range(0, 4000, 2)])
        self.refused_at(" " * 3999 + "!", 3999)


class Names(unittest.TestCase):
    def test_names(self):
        for text in ["a", "z", "x1", "v0", "a0", "somex", "all1", "powers", "abcdefghijkl", "a12345678901"]:
            self.assertIs(is_name(text), True, text)

    def test_reserved_words(self):
        for text in RESERVED:
            self.assertIs(is_name(text), False, text)

    def test_other_strings(self):
        for text in [
            "", "X", "T1", "xY", "Xy", "1", "1x", "x y", " x", "x ", "x\n", "\nx", "x_1", "_x", "x-", "abcdefghijklm",
            "a123456789012", "\u00e9", "x\u00e9", "x\u0661", "x\u00b2", "\u03b1", "\uff41",
        ]:
            self.assertIs(is_name(text), False, text)

    def test_values_that_are_no_strings(self):
        for given in [None, True, False, 0, 1, 1.5, b"x", ["x"], ("x",), {"x"}, {"x": 1}, (), [], {}, object(), str]:
            self.assertIs(is_name(given), False, given)


if __name__ == "__main__":
    unittest.main()
