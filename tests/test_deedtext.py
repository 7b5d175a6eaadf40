"""[7], with [2]: deeds as texts, written and read."""

import unittest

from pointpurse.deeds import checked_deed
from pointpurse.deedtext import deed_text, read_deed
from pointpurse.errors import BadDeed

MOST = 999999999999
EIGHT_NAMES = ("a", "b", "c", "d", "e", "f", "g", "h")
EIGHT_LINES = tuple((name, place) for place, name in enumerate(EIGHT_NAMES))

# Pairs of a deed and its text.
WRITTEN = (
    (("buy", "r", 3, "ann", (("tea", 50), ("cake", 20))), "buy r 3 ann tea 50 cake 20"),
    (("spend", "s", 4, "ann", 10, ("r",)), "spend s 4 ann 10 r"),
    (("give", "g", 5, "ann", "bob", 7), "give g 5 ann bob 7"),
    (("change", "c", 6, "bob", "ann", 80), "change c 6 bob ann 80"),
    (("lend", "l", 7, "ann", "bob", 9, 12), "lend l 7 ann bob 9 12"),
    (("back", "b", 8, "r"), "back b 8 r"),
    (("fix", "t", "r", (("tea", 40),)), "fix t r tea 40"),
)
EDGES = (
    (("buy", "r", 0, "ann", (("tea", 0),)), "buy r 0 ann tea 0"),
    (("buy", "buy", 0, "fix", (("buy", 1),)), "buy buy 0 fix buy 1"),
    (("buy", "r", 3, "ann", (("tea", 5), ("tea", 5), ("tea", 6))), "buy r 3 ann tea 5 tea 5 tea 6"),
    (("buy", "r", 3, "ann", EIGHT_LINES), "buy r 3 ann a 0 b 1 c 2 d 3 e 4 f 5 g 6 h 7"),
    (("buy", "zyxwvuts", 10, "abcdefgh", (("zzzzzzzz", 100),)), "buy zyxwvuts 10 abcdefgh zzzzzzzz 100"),
    (("buy", "r", MOST, "ann", (("tea", MOST),)), "buy r 999999999999 ann tea 999999999999"),
    (("buy", "r", 100000000000, "ann", (("tea", 123456789012),)), "buy r 100000000000 ann tea 123456789012"),
    (("spend", "s", 4, "ann", 1, ()), "spend s 4 ann 1"),
    (("spend", "s", 4, "ann", MOST, ("z", "a", "k")), "spend s 4 ann 999999999999 z a k"),
    (("spend", "s", 4, "ann", 10, EIGHT_NAMES), "spend s 4 ann 10 a b c d e f g h"),
    (("lend", "l", 0, "ann", "bob", 1, 1), "lend l 0 ann bob 1 1"),
    (("lend", "l", 9, "ann", "bob", 1, 10), "lend l 9 ann bob 1 10"),
    (("back", "b", 0, "abcdefgh"), "back b 0 abcdefgh"),
    (("fix", "t", "r", EIGHT_LINES), "fix t r a 0 b 1 c 2 d 3 e 4 f 5 g 6 h 7"),
)

# Each {} stands for a number.
NUMBER_PLACES = (
    "buy r {} ann tea 50", "buy r 3 ann tea {}", "buy r 3 ann tea 50 cake {}", "buy r 3 ann tea {} cake 20",
    "spend s {} ann 10", "spend s 4 ann {}", "spend s 4 ann {} r",
    "give g {} ann bob 7", "give g 5 ann bob {}", "change c {} bob ann 80", "change c 6 bob ann {}",
    "lend l {} ann bob 9 999999999999", "lend l 7 ann bob {} 12", "lend l 7 ann bob 9 {}",
    "back b {} r", "fix t r tea {}", "fix t r tea 40 cake {}",
)
# Each {} stands for a name, and may stand for zoe.
NAME_PLACES = (
    "buy {} 3 ann tea 50", "buy r 3 {} tea 50", "buy r 3 ann {} 50", "buy r 3 ann tea 50 {} 20",
    "spend {} 4 ann 10 r", "spend s 4 {} 10 r", "spend s 4 ann 10 {}", "spend s 4 ann 10 r {} q",
    "give {} 5 ann bob 7", "give g 5 {} bob 7", "give g 5 ann {} 7",
    "change {} 6 bob ann 80", "change c 6 {} ann 80", "change c 6 bob {} 80",
    "lend {} 7 ann bob 9 12", "lend l 7 {} bob 9 12", "lend l 7 ann {} 9 12",
    "back {} 8 r", "back b 8 {}", "fix {} r tea 40", "fix t {} tea 40", "fix t r {} 40",
)


class TextsTestCase(unittest.TestCase):
    def assert_reads(self, text, deed):
        with self.subTest(text=text):
            told = read_deed(text)
            self.assertEqual(told, deed)
            self.assertIs(checked_deed(told), True)

    def assert_refused(self, text):
        with self.subTest(refused=text):
            self.assertRaises(BadDeed, read_deed, text)


class Writing(unittest.TestCase):
    def test_each_of_the_seven_words(self):
        for deed, text in WRITTEN:
            with self.subTest(deed=deed):
                self.assertEqual(deed_text(deed), text)

    def test_edges(self):
        for deed, text in EDGES:
            with self.subTest(deed=deed):
                self.assertEqual(deed_text(deed), text)

    def test_the_same_text_again(self):
        for deed, text in WRITTEN + EDGES:
            with self.subTest(deed=deed):
                deed_text(deed)
                self.assertEqual(deed_text(deed), text)


class Reading(TextsTestCase):
    def test_each_of_the_seven_words(self):
        for deed, text in WRITTEN:
            self.assert_reads(text, deed)

    def test_edges(self):
        for deed, text in EDGES:
            self.assert_reads(text, deed)

    def test_what_was_written_reads_as_the_very_deed(self):
        for deed, text in WRITTEN + EDGES:
            self.assert_reads(deed_text(deed), deed)

    def test_several_blanks_between_the_words(self):
        for deed, text in WRITTEN + EDGES:
            for blanks in ("  ", "   ", " " * 20):
                self.assert_reads(text.replace(" ", blanks), deed)

    def test_several_blanks_at_one_place(self):
        for deed, text in WRITTEN:
            for place in [place for place, sign in enumerate(text) if sign == " "]:
                self.assert_reads(text[:place] + "  " + text[place:], deed)

    def test_blanks_at_the_ends(self):
        for deed, text in WRITTEN + EDGES:
            for ahead, behind in ((" ", ""), ("", " "), ("   ", "  "), (" " * 9, " " * 9)):
                self.assert_reads(ahead + text + behind, deed)

    def test_what_was_read_is_written_with_one_blank_between_the_words(self):
        for deed, text in WRITTEN + EDGES:
            for loose in (text, " " + text.replace(" ", "  ") + "  ", text.replace(" ", "    "), text + "   "):
                with self.subTest(loose=loose):
                    self.assertEqual(deed_text(read_deed(loose)), text)

    def test_numbers_of_one_to_twelve_figures(self):
        for figures in range(1, 13):
            for first in ("1", "9"):
                word = first + "0" * (figures - 1)
                self.assert_reads("buy r " + word + " ann tea 50", ("buy", "r", int(word), "ann", (("tea", 50),)))
                self.assert_reads("fix t r tea " + word, ("fix", "t", "r", (("tea", int(word)),)))
                self.assert_reads("spend s 4 ann " + word, ("spend", "s", 4, "ann", int(word), ()))

    def test_the_names_and_numbers_that_the_refusals_are_built_on(self):
        for place in NUMBER_PLACES:
            self.assertIs(checked_deed(read_deed(place.replace("{}", "20"))), True)
        for place in NAME_PLACES:
            self.assertIs(checked_deed(read_deed(place.replace("{}", "zoe"))), True)

    def test_read_twice(self):
        for deed, text in WRITTEN:
            self.assert_reads(text, deed)
            self.assert_reads(text, deed)


class RefusedTexts(TextsTestCase):
    def assert_no_numbers(self, words):
        for place in NUMBER_PLACES:
            for word in words:
                self.assert_refused(place.replace("{}", word))

    def test_a_number_with_a_nought_ahead(self):
        self.assert_no_numbers(("020", "0020", "00", "000", "01", "000000000020", "0000000000020"))

    def test_a_number_with_a_sign(self):
        self.assert_no_numbers(("+20", "-20", "+0", "-0", "20+", "20-", "--20"))

    def test_a_number_with_a_point_or_another_mark(self):
        self.assert_no_numbers(("20.0", "20.", ".20", "0.0", "20,", "2,000", "2_0", "2'0", "20e1", "0x14", "20L", "(20)"))

    def test_a_number_of_thirteen_figures_or_more(self):
        self.assert_no_numbers(("1000000000000", "9999999999999", "1" * 14, "1" * 100, "1" * 5000))

    def test_a_number_that_is_none(self):
        self.assert_no_numbers(("", "x", "twenty", "None", "-", "2x0", "x20", "20x"))

    def test_points_of_nought(self):
        for text in (
            "spend s 4 ann 0", "spend s 4 ann 0 r", "give g 5 ann bob 0", "change c 6 bob ann 0", "lend l 7 ann bob 0 12",
        ):
            self.assert_refused(text)

    def test_an_end_that_is_not_after_the_day(self):
        for text in ("lend l 7 ann bob 9 7", "lend l 7 ann bob 9 6", "lend l 0 ann bob 9 0", "lend l 10 ann bob 9 9"):
            self.assert_refused(text)

    def test_names_that_are_none(self):
        for place in NAME_PLACES:
            for word in ("Zoe", "zoE", "Z", "zoe1", "1zoe", "1", "0", "zoe.", ".", "z.e", "abcdefghi", "a" * 30, "-", "z_e"):
                self.assert_refused(place.replace("{}", word))

    def test_another_verb(self):
        for deed, text in WRITTEN:
            behind = text[len(deed[0]):]
            for verb in ("sell", "Buy", "BUY", deed[0].upper(), deed[0] + "s", deed[0][:-1], "r", "3", "-", "", "tell"):
                self.assert_refused(verb + behind)

    def test_another_deed_s_verb(self):
        for deed, text in WRITTEN:
            for verb in ("buy", "spend", "give", "change", "lend", "back", "fix"):
                # Give and change have one form, and their last two words may be a line as well.
                if verb != deed[0] and (deed[0] not in ("give", "change") or verb not in ("give", "change", "buy")):
                    self.assert_refused(verb + text[len(deed[0]):])

    def test_a_word_too_few(self):
        for deed, text in WRITTEN:
            words = text.split(" ")
            for place in range(len(words)):
                if deed[0] != "spend" or place != 5:
                    self.assert_refused(" ".join(words[:place] + words[place + 1:]))

    def test_texts_that_break_off(self):
        for deed, text in WRITTEN:
            words = text.split(" ")
            whole = {"buy": (6, 8), "spend": (5, 6)}.get(deed[0], (len(words),))
            for many in range(len(words)):
                if many not in whole:
                    self.assert_refused(" ".join(words[:many]))
                    self.assert_refused(" ".join(words[:many]) + " ")

    def test_a_word_too_many(self):
        for deed, text in WRITTEN:
            for more in ("9", "0", "Q", "-", "."):
                self.assert_refused(text + " " + more)
            if deed[0] != "spend":
                self.assert_refused(text + " q")

    def test_a_whole_line_too_many(self):
        for deed, text in WRITTEN:
            if deed[0] not in ("buy", "fix"):
                self.assert_refused(text + " tea 50")

    def test_a_deed_behind_a_deed(self):
        for deed, text in WRITTEN:
            self.assert_refused(text + " " + text)

    def test_lines_without_money_or_kind(self):
        for text in (
            "buy r 3 ann", "buy r 3 ann tea", "buy r 3 ann 50", "buy r 3 ann 50 tea", "buy r 3 ann tea 50 cake",
            "buy r 3 ann tea 50 20", "buy r 3 ann tea cake 50", "fix t r", "fix t r tea", "fix t r 40",
            "fix t r 40 tea", "fix t r tea 40 cake", "fix t r tea 40 20",
        ):
            self.assert_refused(text)

    def test_nine_lines(self):
        lines = " ".join([name + " 5" for name in EIGHT_NAMES + ("i",)])
        for text in ("buy r 3 ann " + lines, "fix t r " + lines, "buy r 3 ann" + " tea 5" * 9, "fix t r" + " tea 5" * 9):
            self.assert_refused(text)

    def test_nine_first_names(self):
        self.assert_refused("spend s 4 ann 10 " + " ".join(EIGHT_NAMES + ("i",)))

    def test_a_first_name_twice(self):
        for first in ("r r", "r q r", "q r r", "a b c d e f g a"):
            self.assert_refused("spend s 4 ann 10 " + first)

    def test_other_the_same_as_purse(self):
        for text in ("give g 5 ann ann 7", "change c 6 ann ann 80", "lend l 7 ann ann 9 12"):
            self.assert_refused(text)

    def test_of_the_same_as_ref(self):
        for text in ("back r 8 r", "fix r r tea 40"):
            self.assert_refused(text)

    def test_a_blank_exchanged_for_another_sign(self):
        for deed, text in WRITTEN:
            for place in [place for place, sign in enumerate(text) if sign == " "]:
                for sign in ("\n", "\t", ",", "-", "_", "/", "|", ";", "."):
                    self.assert_refused(text[:place] + sign + text[place + 1:])
                    self.assert_refused(text[:place] + sign + text[place:])
                    self.assert_refused(text[:place + 1] + sign + text[place + 1:])

    def test_every_blank_exchanged_for_another_sign(self):
        for deed, text in WRITTEN:
            for sign in ("\n", "\t", ",", "-", "_", "/", "|", ""):
                self.assert_refused(text.replace(" ", sign))

    def test_another_sign_than_a_blank_at_the_ends(self):
        for deed, text in WRITTEN:
            for sign in ("\n", "\t", ",", "-", "|", "."):
                for other in (sign + text, text + sign, sign + " " + text, text + " " + sign):
                    self.assert_refused(other)

    def test_the_empty_text_and_blanks_alone(self):
        for text in ("", " ", "  ", " " * 50, "\n", "\t", " \n "):
            self.assert_refused(text)

    def test_fewer_words_than_any_deed_has(self):
        for text in ("buy", "fix", "r", "3", "spend s", "back b", "back b 8", "fix t", "fix t r", "give g 5", "a b c"):
            self.assert_refused(text)
            self.assert_refused("  " + text + " ")


if __name__ == "__main__":
    unittest.main()
