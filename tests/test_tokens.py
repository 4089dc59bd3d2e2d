"""[b2]: the tokens of a line."""

import itertools
import re
import unittest

import homingtrue.tokens
from homingtrue.tokens import tokens

TOKEN = re.compile(r"-[1-9][0-9]{0,3}(?![0-9])|[a-z]+|[0-9]+|[^ ]")
RIGHT = [("word", re.compile(r"[a-z]{1,8}")),
         ("number", re.compile(r"0|-?[1-9][0-9]{0,3}"))]


def known(line):
    """The tokens by patterns: another way to read the same words of the document."""
    found = []
    for string in TOKEN.findall(line):
        kinds = [kind for kind, pattern in RIGHT if pattern.fullmatch(string)]
        found.append(((kinds + ["bad"])[0], string))
    return found


class Tokens(unittest.TestCase):
    def check(self, rows):
        for line, told in rows:
            with self.subTest(line=line):
                self.assertEqual(tokens(line), told)

    def test_words(self):
        self.check([
            ("a", [("word", "a")]),
            ("loft", [("word", "loft")]),
            ("az", [("word", "az")]),
            ("abcdefgh", [("word", "abcdefgh")]),
            ("abcdefghi", [("bad", "abcdefghi")]),
            ("abcdefghijklmnopqrstuvwxyz", [("bad", "abcdefghijklmnopqrstuvwxyz")]),
            ("abcdefghi abcdefgh", [("bad", "abcdefghi"), ("word", "abcdefgh")]),
        ])

    def test_numbers(self):
        self.check([
            ("0", [("number", "0")]),
            ("7", [("number", "7")]),
            ("10", [("number", "10")]),
            ("9999", [("number", "9999")]),
            ("1000", [("number", "1000")]),
            ("12345", [("bad", "12345")]),
            ("10000", [("bad", "10000")]),
            ("99999999999", [("bad", "99999999999")]),
        ])

    def test_digits_that_begin_with_0(self):
        self.check([
            ("00", [("bad", "00")]),
            ("01", [("bad", "01")]),
            ("000", [("bad", "000")]),
            ("0000", [("bad", "0000")]),
            ("0123", [("bad", "0123")]),
            ("00000", [("bad", "00000")]),
            ("0 0", [("number", "0"), ("number", "0")]),
        ])

    def test_numbers_below_0(self):
        self.check([
            ("-1", [("number", "-1")]),
            ("-10", [("number", "-10")]),
            ("-9999", [("number", "-9999")]),
            ("-10000", [("bad", "-"), ("bad", "10000")]),
            ("-0", [("bad", "-"), ("number", "0")]),
            ("-00", [("bad", "-"), ("bad", "00")]),
            ("-01", [("bad", "-"), ("bad", "01")]),
            ("-0 1", [("bad", "-"), ("number", "0"), ("number", "1")]),
        ])

    def test_signs_that_are_part_of_no_number(self):
        self.check([
            ("-", [("bad", "-")]),
            ("7 -", [("number", "7"), ("bad", "-")]),
            ("7-", [("number", "7"), ("bad", "-")]),
            ("a-", [("word", "a"), ("bad", "-")]),
            ("- 1", [("bad", "-"), ("number", "1")]),
            ("-a", [("bad", "-"), ("word", "a")]),
            ("-a1", [("bad", "-"), ("word", "a"), ("number", "1")]),
            ("--", [("bad", "-"), ("bad", "-")]),
            ("--1", [("bad", "-"), ("number", "-1")]),
            ("---1", [("bad", "-"), ("bad", "-"), ("number", "-1")]),
            ("--0", [("bad", "-"), ("bad", "-"), ("number", "0")]),
            ("--01", [("bad", "-"), ("bad", "-"), ("bad", "01")]),
            ("- -1", [("bad", "-"), ("number", "-1")]),
            ("-+1", [("bad", "-"), ("bad", "+"), ("number", "1")]),
        ])

    def test_tokens_that_touch(self):
        self.check([
            ("a1", [("word", "a"), ("number", "1")]),
            ("1a", [("number", "1"), ("word", "a")]),
            ("a1b", [("word", "a"), ("number", "1"), ("word", "b")]),
            ("a-1", [("word", "a"), ("number", "-1")]),
            ("1-2", [("number", "1"), ("number", "-2")]),
            ("1-0", [("number", "1"), ("bad", "-"), ("number", "0")]),
            ("-1-2", [("number", "-1"), ("number", "-2")]),
            ("-1-", [("number", "-1"), ("bad", "-")]),
            ("abcdefgh1234", [("word", "abcdefgh"), ("number", "1234")]),
            ("abcdefghi12345", [("bad", "abcdefghi"), ("bad", "12345")]),
            ("01ab", [("bad", "01"), ("word", "ab")]),
        ])

    def test_other_characters(self):
        self.check([
            ("A", [("bad", "A")]),
            ("AB", [("bad", "A"), ("bad", "B")]),
            ("Loft", [("bad", "L"), ("word", "oft")]),
            ("loFt", [("word", "lo"), ("bad", "F"), ("word", "t")]),
            ("abcdEfghi", [("word", "abcd"), ("bad", "E"), ("word", "fghi")]),
            ("+1", [("bad", "+"), ("number", "1")]),
            ("1.5", [("number", "1"), ("bad", "."), ("number", "5")]),
            ("1_0", [("number", "1"), ("bad", "_"), ("number", "0")]),
            ("...", [("bad", "."), ("bad", "."), ("bad", ".")]),
            ("a~`{/:@[", [("word", "a"), ("bad", "~"), ("bad", "`"), ("bad", "{"), ("bad", "/"),
                          ("bad", ":"), ("bad", "@"), ("bad", "[")]),
        ])

    def test_each_character_alone(self):
        for code in range(ord(" "), ord("~") + 1):
            sign = chr(code)
            kind = "word" if sign.islower() else "number" if sign.isdigit() else "bad"
            with self.subTest(sign=sign):
                self.assertEqual(tokens(sign), [] if sign == " " else [(kind, sign)])

    def test_spaces(self):
        self.check([
            ("", []),
            (" ", []),
            ("     ", []),
            ("  loft   hill ", [("word", "loft"), ("word", "hill")]),
            ("1 2", [("number", "1"), ("number", "2")]),
            ("ab cd", [("word", "ab"), ("word", "cd")]),
        ])

    def test_whole_lines(self):
        self.check([
            ("loft hill at 0 -400", [
                ("word", "loft"), ("word", "hill"), ("word", "at"),
                ("number", "0"), ("number", "-400")]),
            ("bird 7 of hill year 024", [
                ("word", "bird"), ("number", "7"), ("word", "of"), ("word", "hill"),
                ("word", "year"), ("bad", "024")]),
        ])

    def test_all_short_lines_against_patterns(self):
        for many in range(7):
            for signs in itertools.product("a01- A", repeat=many):
                line = "".join(signs)
                if tokens(line) != known(line):
                    self.assertEqual(tokens(line), known(line), line)

    def test_long_runs_against_patterns(self):
        parts = ["abcdefg", "h", "123", "4", "0", "-", " ", "#"]
        for pieces in itertools.product(parts, repeat=4):
            line = "".join(pieces)
            if tokens(line) != known(line):
                self.assertEqual(tokens(line), known(line), line)

    def test_a_line_as_long_as_a_text(self):
        # Compared before the assertion, which would take very long to tell two such lists apart.
        for line, told in [("a " * 1500, [("word", "a")] * 1500),
                           ("-" * 3000, [("bad", "-")] * 3000),
                           ("a" * 3000, [("bad", "a" * 3000)])]:
            same = tokens(line) == told
            self.assertTrue(same, line[:4])


class Interface(unittest.TestCase):
    def test_each_token_is_a_pair_of_strings_in_a_list(self):
        told = tokens("loft 7 -A")
        self.assertIs(type(told), list)
        for token in told:
            self.assertIs(type(token), tuple)
            self.assertEqual([type(part) for part in token], [str, str])

    def test_the_list_is_new_each_time(self):
        first = tokens("loft hill")
        first.append(("word", "more"))
        self.assertEqual(tokens("loft hill"), [("word", "loft"), ("word", "hill")])
        empty = tokens("")
        empty.append(("word", "more"))
        self.assertEqual(tokens(""), [])

    def test_the_argument_has_the_told_name(self):
        self.assertEqual(tokens(line="a"), [("word", "a")])

    def test_the_function_is_defined_in_its_file(self):
        self.assertEqual(tokens.__module__, "homingtrue.tokens")
        self.assertIs(homingtrue.tokens.tokens, tokens)


if __name__ == "__main__":
    unittest.main()
