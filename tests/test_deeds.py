"""[6], with [2]: what a deed is, and the refusal of what is none."""

import unittest

from pointpurse.deeds import checked_deed
from pointpurse.errors import BadDeed

MOST = 999999999999
LINES = (("tea", 50), ("cake", 20))
EIGHT_NAMES = ("a", "b", "c", "d", "e", "f", "g", "h")
EIGHT_LINES = tuple((name, place) for place, name in enumerate(EIGHT_NAMES))

DEEDS = (
    ("buy", "r", 3, "ann", LINES),
    ("spend", "s", 4, "ann", 10, ("r", "q")),
    ("give", "g", 5, "ann", "bob", 7),
    ("change", "c", 6, "ann", "bob", 8),
    ("lend", "l", 7, "ann", "bob", 9, 12),
    ("back", "b", 8, "r"),
    ("fix", "t", "r", LINES),
)
DEED = {deed[0]: deed for deed in DEEDS}

# The place of each part in the deeds that have it, by their words.
PLACES = {
    "ref": {word: 1 for word in DEED},
    "day": {word: 2 for word in DEED if word != "fix"},
    "purse": {"buy": 3, "spend": 3, "give": 3, "change": 3, "lend": 3},
    "other": {"give": 4, "change": 4, "lend": 4},
    "of": {"back": 3, "fix": 2},
    "points": {"spend": 4, "give": 5, "change": 5, "lend": 5},
    "end": {"lend": 6},
    "lines": {"buy": 4, "fix": 3},
    "first": {"spend": 5},
}

NO_NAMES = (
    "", "abcdefghi", "aaaaaaaaaaaa", "Ann", "anN", "A", "a1", "1", "a b", " a", "a ", "a.", "a\n", "-",
    0, 1, 7, None, (), ("a",), ("a", "b"),
)
NO_NUMBERS = ("", "0", "1", "12", "a", None, (), (1,), (1, 2))


def changed(deed, place, value):
    return deed[:place] + (value,) + deed[place + 1:]


def with_part(part, value):
    """Each deed that has the part, with another value for it."""
    return [changed(DEED[word], place, value) for word, place in PLACES[part].items()]


class DeedsTestCase(unittest.TestCase):
    def assert_deed(self, deed):
        with self.subTest(deed=deed):
            self.assertIs(checked_deed(deed), True)

    def assert_no_deed(self, deed):
        with self.subTest(no_deed=deed):
            self.assertRaises(BadDeed, checked_deed, deed)


class Deeds(DeedsTestCase):
    def test_each_of_the_seven_words(self):
        for deed in DEEDS:
            self.assert_deed(deed)

    def test_a_deed_asked_twice_is_still_one(self):
        for deed in DEEDS:
            self.assert_deed(deed)
            self.assert_deed(deed)

    def test_no_deed_asked_twice_is_still_none(self):
        no_deed = ("give", "g", 5, "ann", "ann", 7)
        self.assert_no_deed(no_deed)
        self.assert_no_deed(no_deed)
        self.assert_deed(DEED["give"])

    def test_names_of_one_and_of_eight_letters(self):
        for part in ("ref", "purse", "other", "of"):
            for name in ("x", "z", "zyxwvuts", "aaaaaaaa"):
                for deed in with_part(part, name):
                    self.assert_deed(deed)

    def test_a_name_may_be_one_of_the_words(self):
        self.assert_deed(("buy", "buy", 0, "buy", (("buy", 0),)))
        self.assert_deed(("give", "give", 0, "give", "lend", 1))

    def test_names_of_different_parts_may_be_alike(self):
        self.assert_deed(("buy", "a", 0, "a", (("a", 1),)))
        self.assert_deed(("spend", "a", 0, "a", 1, ("a",)))
        for word in ("give", "change"):
            self.assert_deed((word, "a", 0, "a", "b", 1))
            self.assert_deed((word, "b", 0, "a", "b", 1))
        self.assert_deed(("lend", "a", 0, "a", "b", 1, 1))
        self.assert_deed(("lend", "b", 0, "a", "b", 1, 1))
        self.assert_deed(("fix", "a", "b", (("a", 1), ("b", 1))))

    def test_day_nought(self):
        for deed in with_part("day", 0):
            self.assert_deed(deed)

    def test_one_point(self):
        for deed in with_part("points", 1):
            self.assert_deed(deed)

    def test_money_nought(self):
        for deed in with_part("lines", (("tea", 0),)):
            self.assert_deed(deed)

    def test_numbers_of_twelve_figures(self):
        for deed in with_part("points", MOST) + with_part("end", MOST) + with_part("lines", (("tea", MOST),)):
            self.assert_deed(deed)
        for deed in with_part("day", MOST):
            if deed[0] != "lend":
                self.assert_deed(deed)
        self.assert_deed(("lend", "l", MOST - 1, "ann", "bob", MOST, MOST))

    def test_an_end_on_the_day_behind(self):
        self.assert_deed(("lend", "l", 7, "ann", "bob", 9, 8))
        self.assert_deed(("lend", "l", 0, "ann", "bob", 9, 1))

    def test_an_end_of_more_figures_than_the_day(self):
        self.assert_deed(("lend", "l", 9, "ann", "bob", 9, 10))

    def test_one_line_and_up_to_eight(self):
        for many in range(1, 9):
            for deed in with_part("lines", EIGHT_LINES[:many]):
                self.assert_deed(deed)

    def test_a_kind_may_stand_twice_in_the_lines(self):
        for lines in ((("tea", 5), ("tea", 6)), (("tea", 5), ("tea", 5)), (("tea", 5),) * 8):
            for deed in with_part("lines", lines):
                self.assert_deed(deed)

    def test_kinds_of_one_and_of_eight_letters(self):
        for deed in with_part("lines", (("x", 5), ("zyxwvuts", 6))):
            self.assert_deed(deed)

    def test_no_first_names_and_up_to_eight(self):
        for many in range(0, 9):
            for deed in with_part("first", EIGHT_NAMES[:many]):
                self.assert_deed(deed)

    def test_first_names_in_any_order(self):
        for first in (("b", "a"), ("zyxwvuts", "x", "k"), ("s",), ("ann",)):
            for deed in with_part("first", first):
                self.assert_deed(deed)


class NoDeeds(DeedsTestCase):
    def test_another_word(self):
        for word in ("", "sell", "Buy", "BUY", "buys", "bu", " buy", "buy ", "spent", "lent", "given", "r", "fix."):
            for deed in DEEDS:
                self.assert_no_deed((word,) + deed[1:])

    def test_another_deed_s_word(self):
        forms = {"buy": 1, "spend": 2, "give": 3, "change": 3, "lend": 4, "back": 5, "fix": 6}
        for deed in DEEDS:
            for word in forms:
                if forms[word] != forms[deed[0]]:
                    self.assert_no_deed((word,) + deed[1:])

    def test_a_word_alone(self):
        for word in ("buy", "spend", "give", "change", "lend", "back", "fix", "sell", ""):
            self.assert_no_deed((word,))

    def test_a_part_too_few(self):
        for deed in DEEDS:
            for place in range(1, len(deed)):
                self.assert_no_deed(deed[:place] + deed[place + 1:])
                self.assert_no_deed(deed[:place])

    def test_a_part_too_many(self):
        for deed in DEEDS:
            for more in ("a", "", 0, 1, 20, None, (), ("a",), (("tea", 5),)):
                self.assert_no_deed(deed + (more,))
        for deed in DEEDS:
            self.assert_no_deed(deed + deed[1:])

    def test_names_that_are_none(self):
        for part in ("ref", "purse", "other", "of"):
            for value in NO_NAMES:
                for deed in with_part(part, value):
                    self.assert_no_deed(deed)

    def test_days_points_and_ends_that_are_no_numbers(self):
        for part in ("day", "points", "end"):
            for value in NO_NUMBERS:
                for deed in with_part(part, value):
                    self.assert_no_deed(deed)

    def test_a_day_below_nought(self):
        for day in (-1, -2, -MOST):
            for deed in with_part("day", day):
                self.assert_no_deed(deed)

    def test_points_below_one(self):
        for points in (0, -1, -MOST):
            for deed in with_part("points", points):
                self.assert_no_deed(deed)

    def test_an_end_that_is_not_after_the_day(self):
        for end in (7, 6, 1, 0, -1, -8):
            for deed in with_part("end", end):
                self.assert_no_deed(deed)
        self.assert_no_deed(("lend", "l", 0, "ann", "bob", 9, 0))
        self.assert_no_deed(("lend", "l", 10, "ann", "bob", 9, 9))

    def test_an_end_after_a_day_below_nought(self):
        self.assert_no_deed(("lend", "l", -2, "ann", "bob", 9, -1))
        self.assert_no_deed(("lend", "l", -2, "ann", "bob", 9, 3))

    def test_other_the_same_as_purse(self):
        for deed in with_part("other", "ann"):
            self.assert_no_deed(deed)
        for word in ("give", "change", "lend"):
            self.assert_no_deed(changed(DEED[word], 3, "bob"))

    def test_of_the_same_as_ref(self):
        self.assert_no_deed(("back", "r", 8, "r"))
        self.assert_no_deed(("fix", "r", "r", LINES))

    def test_no_lines_and_nine(self):
        for lines in ((), EIGHT_LINES + (("i", 9),), (("tea", 5),) * 9, EIGHT_LINES + EIGHT_LINES):
            for deed in with_part("lines", lines):
                self.assert_no_deed(deed)

    def test_a_line_that_is_no_pair(self):
        for line in (("tea",), ("tea", 5, 6), ("tea", 5, "cake", 6), (), "tea", "", "te", 5, None, (("tea", 5),)):
            for lines in ((line,), (line, ("cake", 6)), (("cake", 6), line)):
                for deed in with_part("lines", lines):
                    self.assert_no_deed(deed)

    def test_a_line_whose_kind_is_no_name(self):
        for kind in NO_NAMES:
            for lines in (((kind, 5),), (("tea", 5), (kind, 6)), ((kind, 5), ("tea", 6))):
                for deed in with_part("lines", lines):
                    self.assert_no_deed(deed)

    def test_a_line_whose_money_is_no_number_or_below_nought(self):
        for money in NO_NUMBERS + (-1, -MOST):
            for lines in ((("tea", money),), (("tea", 5), ("cake", money)), (("tea", money), ("cake", 5))):
                for deed in with_part("lines", lines):
                    self.assert_no_deed(deed)

    def test_a_line_with_money_ahead_of_its_kind(self):
        for deed in with_part("lines", ((5, "tea"),)):
            self.assert_no_deed(deed)

    def test_lines_that_are_no_tuple(self):
        for lines in ("tea", "", "t", 5, 0, None):
            for deed in with_part("lines", lines):
                self.assert_no_deed(deed)

    def test_a_line_that_stands_alone(self):
        for lines in (("tea", 5), ("tea", 5, "cake", 6)):
            for deed in with_part("lines", lines):
                self.assert_no_deed(deed)

    def test_first_that_is_no_tuple(self):
        for first in ("r", "", "rq", 5, 0, None):
            for deed in with_part("first", first):
                self.assert_no_deed(deed)

    def test_a_first_name_twice(self):
        for first in (("r", "r"), ("r", "q", "r"), ("q", "r", "r"), EIGHT_NAMES[:7] + ("a",)):
            for deed in with_part("first", first):
                self.assert_no_deed(deed)

    def test_nine_first_names(self):
        for first in (EIGHT_NAMES + ("i",), EIGHT_NAMES + ("i", "j", "k")):
            for deed in with_part("first", first):
                self.assert_no_deed(deed)

    def test_a_first_name_that_is_none(self):
        for name in NO_NAMES:
            for first in ((name,), (name, "r"), ("r", name), ("q", name, "r")):
                for deed in with_part("first", first):
                    self.assert_no_deed(deed)


if __name__ == "__main__":
    unittest.main()
