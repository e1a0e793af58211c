"""Words of a text."""

import unittest
from random import Random

from starsinaring.errors import BadText
from starsinaring.signs import number_of, text_of, word_of, words

PRINTED = [chr(code) for code in range(32, 127)]
WORD_SIGNS = "abcdefghijklmnopqrstuvwxyz0123456789-"


def some_words(source, many):
    """WORDS of so many words, lines never falling."""
    found, line = [], source.choice([0, 0, 1, 3])
    for _ in range(many):
        found.append(("".join(source.choice(WORD_SIGNS) for _ in range(source.randint(1, 9))), line))
        line += source.choice([0, 0, 0, 1, 1, 2, 5])
    return found


class Words(unittest.TestCase):
    def test_texts_without_words(self):
        for text in ("", " ", "\n", "\n\n \n", "#", "# Only A Remark!", "  # a\n#b\n", "#\n#", "##", " # # \n"):
            self.assertEqual([], words(text), text)

    def test_what_parts_words(self):
        self.assertEqual([("a", 0), ("b", 0)], words("a b"))
        self.assertEqual([("a", 0), ("b", 0)], words("  a   b  "))
        self.assertEqual([("a", 0), ("b", 1)], words("a\nb"))
        self.assertEqual([("a", 1), ("b", 3), ("c", 3)], words("\na\n\nb c\n"))
        self.assertEqual([("a", 0), ("b", 1)], words("a#x\nb"))
        self.assertEqual([("a", 0)], words("a# b # c"))
        self.assertEqual([("a", 0), ("d", 1)], words("a # Q.!\"$~^ \\ \nd"))
        self.assertEqual([("a-b", 0), ("--", 0), ("-", 0), ("0-z", 0)], words("a-b -- - 0-z"))

    def test_long_words(self):
        long = WORD_SIGNS * 3000
        self.assertEqual([(long, 0), (long, 1)], words(f"{long}\n{long}"))

    def test_every_sign(self):
        for sign in PRINTED:
            text = f"ab\nc{sign}d"
            if sign in WORD_SIGNS:
                self.assertEqual([("ab", 0), (f"c{sign}d", 1)], words(text))
            elif sign == " ":
                self.assertEqual([("ab", 0), ("c", 1), ("d", 1)], words(text))
            elif sign == "#":
                self.assertEqual([("ab", 0), ("c", 1)], words(text))
            else:
                self.assert_bad(text, 1)
                self.assert_bad(sign, 0)
                self.assert_bad(f"\n\n {sign} ", 2)
            self.assertEqual([("ab", 0)], words(f"ab#{sign}"))

    def assert_bad(self, text, line):
        with self.assertRaises(BadText, msg=text) as caught:
            words(text)
        self.assertEqual({"line": line}, vars(caught.exception))

    def test_first_bad_line(self):
        self.assert_bad("a\nb\nC\nd\nE", 2)
        self.assert_bad("A # A", 0)
        self.assert_bad("# A\n# B\n a _", 2)
        self.assert_bad("a\n" * 500 + "b ?" + "\n!" * 5, 500)


class Texts(unittest.TestCase):
    def test_text_of(self):
        self.assertEqual("", text_of([]))
        self.assertEqual("", text_of(()))
        self.assertEqual("a\n", text_of([("a", 0)]))
        self.assertEqual("\n\na\n", text_of([("a", 2)]))
        self.assertEqual("a b\n\n\nc d\ne\n", text_of([("a", 0), ("b", 0), ("c", 3), ("d", 3), ("e", 4)]))
        self.assertEqual("a b\n", text_of([["a", 0], ("b", 0)]))
        self.assertEqual("\n" * 10 ** 6 + "a\n", text_of([("a", 10 ** 6)]))

    def test_there_and_back(self):
        source = Random(4)
        for many in list(range(12)) * 5:
            told = some_words(source, many)
            text = text_of(told)
            self.assertEqual(told, words(text))
            self.assertEqual(text, text_of(words(text)))
            self.assertEqual(told, words(text.replace(" ", "   ").replace("\n", " \n  ")))
            self.assertEqual(told, words(text.replace("\n", "# Remark. #\n") + "# end"))

    def test_a_line_break_more(self):
        text = "a b\nc # d e\nf"
        self.assertEqual([("a", 0), ("b", 1), ("c", 2), ("f", 3)], words(text.replace("a b", "a \nb")))
        self.assertEqual([("a", 0), ("b", 0), ("c", 2), ("f", 3)], words(text.replace("b\n", "b\n\n")))


class Numbers(unittest.TestCase):
    def test_number_words(self):
        for number in (0, 1, 9, 10, 12, 100, 907, 10 ** 6, 10 ** 11, 10 ** 12 - 1, 123456789012):
            self.assertEqual(number, number_of(str(number)))
            self.assertEqual(str(number), word_of(number))
            if number > 0:
                self.assertEqual(-number, number_of(f"-{number}"))
                self.assertEqual(f"-{number}", word_of(-number))

    def test_no_number_words(self):
        bad = ["", "-", "--", "--1", "-0", "00", "01", "-01", "-00", "007", "1-", "1-2", "1 ", " 1", "1 2", "a", "1a", "a1"]
        bad += ["+1", "1.0", "1e3", "1_0", "0x1", "1\n", "\n1", "-\n1", "- 1", "1,0", "#1", "1#", "ring"]
        bad += ["1" * 13, "-" + "1" * 13, "9" * 12 + "0", "0" * 12, "0" * 13, "1" * 5000]
        bad += ["\u0661", "\u00b2", "\uff11", "1\u0662"]
        for word in bad:
            self.assertIsNone(number_of(word), word)

    def test_there_and_back(self):
        for number in list(range(-1100, 1100)) + [-10 ** 12 + 1, 10 ** 12 - 1]:
            self.assertEqual(number, number_of(word_of(number)))
            self.assertIs(type(number_of(word_of(number))), int)


if __name__ == "__main__":
    unittest.main()
