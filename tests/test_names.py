"""[3]: what a name is."""

import unittest

from pointpurse.houses import is_name


class Names(unittest.TestCase):
    def test_names(self):
        for text in ("a", "z", "m", "ab", "zz", "tea", "abcdefg", "abcdefgh", "zyxwvuts", "aaaaaaaa"):
            with self.subTest(text=text):
                self.assertIs(is_name(text), True)

    def test_every_small_letter_is_a_name(self):
        for letter in "abcdefghijklmnopqrstuvwxyz":
            with self.subTest(letter=letter):
                self.assertIs(is_name(letter), True)
                self.assertIs(is_name("k" + letter + "k"), True)

    def test_too_short_or_too_long(self):
        for text in ("", "abcdefghi", "aaaaaaaaa", "abcdefghijklmnop"):
            with self.subTest(text=text):
                self.assertIs(is_name(text), False)

    def test_no_other_sign_is_let_in_at_any_place(self):
        others = [chr(code) for code in range(32, 127) if not 97 <= code <= 122] + ["\n"]
        for sign in others:
            for text in (sign, sign + "ab", "a" + sign + "b", "ab" + sign):
                with self.subTest(text=text):
                    self.assertIs(is_name(text), False)

    def test_the_signs_beside_a_and_z(self):
        for text in ("`", "{", "a`", "{z", "A", "Z", "@", "["):
            with self.subTest(text=text):
                self.assertIs(is_name(text), False)

    def test_great_letters_figures_blanks_and_line_feeds(self):
        for text in ("Tea", "teA", "TEA", "tea1", "1", "0tea", "te a", " tea", "tea ", " ", "tea\n", "\ntea", "\n"):
            with self.subTest(text=text):
                self.assertIs(is_name(text), False)

    def test_a_long_text_of_other_signs_is_no_name(self):
        for text in ("ABCDEFGHI", "         ", "abcdefgh\n"):
            with self.subTest(text=text):
                self.assertIs(is_name(text), False)


if __name__ == "__main__":
    unittest.main()
