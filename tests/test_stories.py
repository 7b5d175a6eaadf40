"""[18] and [19], with [1] and [2]: stories, sums and debts.

Deeds stand here by their texts [7]; a buy brings as many points as it has money.
"""

import copy
import types
import unittest

from pointpurse.books import Book
from pointpurse.deedtext import read_deed
from pointpurse.errors import NoDeed, PurseError
from pointpurse.houses import House
from pointpurse.ledger import Ledger
from pointpurse.stories import debt_of, story, sums
from pointpurse.walk import walked

MOST = 999999999999
FIELDS = ("day", "rows", "debts", "earned", "ends", "owed", "odds", "backs")
WORDS = ("brought", "left", "spent", "lapsed", "taken", "paid", "changed")


def house(name, age=None, rest=None, cap=None):
    return House(name, (1, 1), [], [], [], cap, age, rest, [], 30, 0)


def book_of(age=None, rest=None, cap=None):
    """Three houses; inn has purses, but nothing is ever told of them."""
    return Book(
        [house("shop", age, rest, cap), house("mill"), house("inn")],
        [("ann", "shop"), ("bob", "shop"), ("cid", "shop"), ("dan", "mill"), ("eve", "mill"), ("fay", "inn")],
        [("shop", "mill", 1, 3), ("mill", "shop", 1, 1)],
    )


def state_of(texts, day, **fields):
    return walked(book_of(**fields), [read_deed(text) for text in texts], day)


def fields_of(state):
    return {field: copy.deepcopy(getattr(state, field)) for field in FIELDS}


def dict_of(*numbers):
    return dict(zip(WORDS, numbers, strict=True))


# Points of shop and of mill with all words, of a buy and of a change.
TEXTS = (
    "buy a 1 ann tea 50", "buy b 1 bob tea 9", "spend c 2 ann 4", "give d 3 ann bob 5", "lend e 3 ann bob 6 8",
    "change f 4 ann dan 10", "spend g 5 bob 23 a b", "buy h 9 bob tea 5", "back i 10 a", "buy j 12 eve tea 7",
    "change k 13 eve ann 2", "spend l 14 dan 5", "buy m 21 cid tea 1", "buy n 22 dan tea 3",
)


class StoryTestCase(unittest.TestCase):
    maxDiff = None

    def assert_no_deed(self, asked, state, ref):
        """The asking is refused with just NoDeed, and the state stays as it was."""
        kept = fields_of(state)
        with self.subTest(asked=asked.__name__, ref=ref):
            with self.assertRaises(PurseError) as caught:
                asked(state, ref)
            self.assertIs(type(caught.exception), NoDeed)
            self.assertEqual(fields_of(state), kept)


class Stories(StoryTestCase):
    def test_a_buy_that_lies_whole(self):
        self.assertEqual(story(state_of(["buy a 1 ann tea 50"], 1), "a"), [("left", "ann", "", 1, 50)])
        self.assertEqual(story(state_of(["buy a 0 ann tea 1"], MOST), "a"), [("left", "ann", "", 0, 1)])

    def test_a_buy_and_a_change_with_several_words(self):
        state = state_of(TEXTS, 22, age=20)
        self.assertEqual(
            story(state, "a"),
            [("changed", "ann", "f", 4, 10), ("spent", "ann", "c", 2, 4), ("spent", "bob", "g", 5, 11),
             ("taken", "ann", "i", 10, 25)],
        )
        self.assertEqual(story(state, "b"), [("spent", "bob", "g", 5, 9)])
        self.assertEqual(story(state, "f"), [("spent", "dan", "l", 14, 3)])
        self.assertEqual(story(state, "h"), [("left", "ann", "", 9, 2), ("paid", "bob", "g", 9, 3)])
        self.assertEqual(story(state, "j"), [("changed", "eve", "k", 13, 2), ("left", "eve", "", 12, 5)])
        self.assertEqual(story(state, "k"), [("left", "ann", "", 13, 2)])
        self.assertEqual(story(state, "m"), [("left", "cid", "", 21, 1)])
        self.assertEqual(story(state, "n"), [("left", "dan", "", 22, 1), ("paid", "dan", "l", 22, 2)])

    def test_as_the_days_go(self):
        texts = ["buy a 1 ann tea 50", "spend s 3 ann 20", "back r 5 a"]
        self.assertEqual(story(state_of(texts, 2), "a"), [("left", "ann", "", 1, 50)])
        self.assertEqual(story(state_of(texts, 4), "a"), [("left", "ann", "", 1, 30), ("spent", "ann", "s", 3, 20)])
        self.assertEqual(story(state_of(texts, 5), "a"), [("spent", "ann", "s", 3, 20), ("taken", "ann", "r", 5, 30)])

    def test_left_in_several_rows_own_and_lent(self):
        state = state_of(
            ["buy a 1 ann tea 50", "buy b 1 bob tea 9", "give g 2 ann bob 7", "lend m 3 ann bob 8 30",
             "lend l 3 ann bob 5 40", "lend n 4 bob cid 3 30", "lend o 4 bob ann 6 30"], 5
        )
        self.assertEqual(
            story(state, "a"),
            [("left", "ann", "", 1, 30), ("left", "ann", "o", 1, 4), ("left", "bob", "l", 1, 5),
             ("left", "bob", "m", 1, 8), ("left", "cid", "n", 1, 3)],
        )
        self.assertEqual(story(state, "b"), [("left", "ann", "o", 1, 2), ("left", "bob", "", 1, 7)])

    def test_what_was_lent_and_came_back_lies_as_own(self):
        texts = ["buy a 1 ann tea 50", "lend l 2 ann bob 8 6", "spend s 3 bob 3"]
        spent = ("spent", "bob", "s", 3, 3)
        self.assertEqual(
            story(state_of(texts, 5), "a"), [("left", "ann", "", 1, 42), ("left", "bob", "l", 1, 5), spent]
        )
        self.assertEqual(story(state_of(texts, 6), "a"), [("left", "ann", "", 1, 47), spent])

    def test_piles_of_several_borns_stay_apart(self):
        # A walk gives all piles of a source one born; the document does not say so, and tells the born of each pile.
        state = types.SimpleNamespace(
            rows={"bob": [(2, "a", "", 4), (3, "a", "", 5), (3, "a", "l", 6), (3, "b", "", 9)], "ann": [(3, "a", "", 7)]},
            ends=[], earned={"a": ("buy", "ann", 2, 22), "b": ("buy", "ann", 3, 9)},
        )
        self.assertEqual(
            story(state, "a"),
            [("left", "ann", "", 3, 7), ("left", "bob", "", 2, 4), ("left", "bob", "", 3, 5), ("left", "bob", "l", 3, 6)],
        )

    def test_lapsed_of_age_own_and_lent_together(self):
        state = state_of(
            ["buy a 1 ann tea 50", "give g 2 ann bob 7", "lend l 2 ann bob 8 30", "spend s 3 ann 1"], 11, age=10
        )
        self.assertEqual(
            story(state, "a"),
            [("lapsed", "ann", "", 11, 34), ("lapsed", "bob", "", 11, 15), ("spent", "ann", "s", 3, 1)],
        )

    def test_lapsed_of_rest_on_several_days(self):
        state = state_of(
            ["buy a 1 ann tea 50", "give g 2 ann bob 7", "buy b 3 ann tea 5", "give h 4 ann cid 9"], 9, rest=5
        )
        self.assertEqual(
            story(state, "a"),
            [("lapsed", "ann", "", 9, 34), ("lapsed", "bob", "", 7, 7), ("lapsed", "cid", "", 9, 9)],
        )
        self.assertEqual(story(state, "b"), [("lapsed", "ann", "", 9, 5)])

    def test_a_buy_that_pays_the_house_and_a_purse(self):
        state = state_of(
            ["buy a 0 bob tea 6", "lend l 1 bob ann 6 4", "spend s 2 ann 6", "spend t 5 ann 2", "buy b 6 ann tea 20"], 7
        )
        self.assertEqual(story(state, "a"), [("spent", "ann", "s", 2, 6)])
        self.assertEqual(
            story(state, "b"), [("left", "ann", "", 6, 12), ("left", "bob", "", 6, 6), ("paid", "ann", "t", 6, 2)]
        )

    def test_two_debts_paid_by_one_buy_stay_apart(self):
        state = state_of(["spend s 1 ann 4", "spend t 1 ann 3", "buy a 2 ann tea 6", "buy b 3 ann tea 9"], 3)
        self.assertEqual(story(state, "a"), [("paid", "ann", "s", 2, 4), ("paid", "ann", "t", 2, 2)])
        self.assertEqual(story(state, "b"), [("left", "ann", "", 3, 8), ("paid", "ann", "t", 3, 1)])

    def test_one_word_purse_and_ref_on_several_days_stays_apart(self):
        state = state_of(
            ["buy a 1 ann tea 9", "give g 1 ann bob 3", "give h 5 ann cid 1", "give i 8 ann bob 2"], 20, rest=5
        )
        self.assertEqual(
            story(state, "a"),
            [("lapsed", "ann", "", 13, 3), ("lapsed", "bob", "", 6, 3), ("lapsed", "bob", "", 13, 2),
             ("lapsed", "cid", "", 10, 1)],
        )

    def test_a_change_of_points_that_were_changed(self):
        state = state_of(["buy a 1 ann tea 30", "change c 2 ann dan 10", "change d 3 dan ann 2", "spend s 4 ann 21"], 4)
        self.assertEqual(story(state, "a"), [("changed", "ann", "c", 2, 10), ("spent", "ann", "s", 4, 20)])
        self.assertEqual(story(state, "c"), [("changed", "dan", "d", 3, 2), ("left", "dan", "", 2, 1)])
        self.assertEqual(story(state, "d"), [("left", "ann", "", 3, 1), ("spent", "ann", "s", 4, 1)])

    def test_a_source_that_brought_nothing(self):
        state = state_of(
            ["buy a 1 ann tea 0", "buy b 1 ann tea 2", "change c 2 ann dan 2", "change d 3 ann dan 5", "buy e 4 bob tea 9",
             "buy f 4 bob tea 1"], 4, cap=9
        )
        for source in ("a", "c", "d", "f"):
            with self.subTest(source=source):
                self.assertEqual(story(state, source), [])

    def test_a_ref_that_is_no_source(self):
        state = state_of(TEXTS, 20)
        # m and n are buys of later days, o and the like were never told.
        for ref in ("c", "d", "e", "g", "i", "l", "m", "n", "o", "zzz", "ann", "dan", "shop", "tea", "left", ""):
            self.assert_no_deed(story, state, ref)
        self.assert_no_deed(story, state_of([], 9), "a")

    def test_the_list_is_the_askers_own(self):
        state = state_of(TEXTS, 20)
        kept = fields_of(state)
        told = story(state, "a")
        self.assertIs(type(told), list)
        self.assertTrue(all(type(part) is tuple for part in told))
        as_told = list(told)
        again = story(state, "a")
        self.assertIsNot(told, again)
        told.clear()
        self.assertEqual(again, as_told)
        self.assertEqual(story(state, "a"), as_told)
        self.assertEqual(fields_of(state), kept)

    def test_later_tellings_leave_it_as_it_was(self):
        ledger = Ledger(book_of())
        ledger.tell(read_deed("buy a 1 ann tea 50"), 1)
        state = ledger.state(4)
        told = story(state, "a")
        ledger.tell(read_deed("spend s 2 ann 9"), 4)
        self.assertEqual(told, [("left", "ann", "", 1, 50)])
        self.assertEqual(story(state, "a"), [("left", "ann", "", 1, 50)])
        self.assertEqual(story(ledger.state(4), "a"), [("left", "ann", "", 1, 41), ("spent", "ann", "s", 2, 9)])


class Sums(StoryTestCase):
    def test_each_house_of_a_book(self):
        state = state_of(TEXTS, 22, age=20)
        book = book_of(age=20)
        self.assertEqual(sums(state, book, "shop"), dict_of(67, 5, 24, 0, 25, 3, 10))
        self.assertEqual(sums(state, book, "mill"), dict_of(13, 6, 3, 0, 0, 2, 2))
        self.assertEqual(sums(state, book, "inn"), dict_of(0, 0, 0, 0, 0, 0, 0))

    def test_each_word_by_itself(self):
        buy = "buy a 1 ann tea 9"
        for texts, day, expected in (
            ([buy], 1, dict_of(9, 9, 0, 0, 0, 0, 0)),
            ([buy, "spend s 2 ann 9"], 2, dict_of(9, 0, 9, 0, 0, 0, 0)),
            ([buy], 11, dict_of(9, 0, 0, 9, 0, 0, 0)),
            ([buy, "back r 2 a"], 2, dict_of(9, 0, 0, 0, 9, 0, 0)),
            (["spend s 0 ann 9", buy], 2, dict_of(9, 0, 0, 0, 0, 9, 0)),
            ([buy, "change c 2 ann dan 9"], 2, dict_of(9, 0, 0, 0, 0, 0, 9)),
        ):
            with self.subTest(texts=texts, day=day):
                self.assertEqual(sums(state_of(texts, day, age=10), book_of(age=10), "shop"), expected)

    def test_all_seven_words_in_one_house(self):
        texts = [
            "spend s 0 ann 4", "buy a 1 ann tea 40", "buy b 2 bob tea 30", "buy c 9 ann tea 20", "spend t 3 bob 6",
            "change x 4 ann dan 9", "lend l 4 bob ann 5 40", "back r 5 b", "buy d 6 dan tea 8", "change y 7 dan cid 3",
        ]
        book = book_of(age=10)
        # On day 11 what is left of a lapses: 40 less 4 paid and 9 changed.
        state = state_of(texts, 11, age=10)
        self.assertEqual(sums(state, book, "shop"), dict_of(93, 28, 6, 27, 19, 4, 9))
        self.assertEqual(sums(state, book, "mill"), dict_of(11, 8, 0, 0, 0, 0, 3))

    def test_points_count_by_the_purse_they_were_brought_to(self):
        state = state_of(["buy a 1 ann tea 9", "give g 2 ann bob 4", "lend l 2 bob cid 3 9", "spend s 3 cid 1"], 4)
        self.assertEqual(sums(state, book_of(), "shop"), dict_of(9, 8, 1, 0, 0, 0, 0))

    def test_sources_that_brought_nothing_and_no_deeds(self):
        for texts in ([], ["buy a 1 ann tea 0", "change c 2 ann dan 3", "spend s 2 ann 7"]):
            for name in ("shop", "mill", "inn"):
                with self.subTest(texts=texts, name=name):
                    self.assertEqual(sums(state_of(texts, 5), book_of(), name), dict_of(0, 0, 0, 0, 0, 0, 0))

    def test_great_numbers(self):
        state = state_of([f"buy a 1 ann tea {MOST}", f"buy b 1 ann tea {MOST}", f"spend s {MOST} ann {MOST}"], MOST)
        self.assertEqual(sums(state, book_of(), "shop"), dict_of(2 * MOST, MOST, MOST, 0, 0, 0, 0))

    def test_the_dict_is_the_askers_own(self):
        state = state_of(TEXTS, 20)
        book = book_of()
        kept = fields_of(state)
        told = sums(state, book, "shop")
        again = sums(state, book, "shop")
        self.assertIs(type(told), dict)
        self.assertIsNot(told, again)
        as_told = dict(told)
        told["brought"] = 0
        told.clear()
        self.assertEqual(again, as_told)
        self.assertEqual(sums(state, book, "shop"), as_told)
        self.assertEqual(fields_of(state), kept)


class Debts(StoryTestCase):
    def test_to_the_house_by_a_spending(self):
        texts = ["spend s 1 ann 9", "buy a 2 ann tea 4", "buy b 3 ann tea 4", "buy c 4 ann tea 4"]
        self.assertEqual(debt_of(state_of(texts, 1), "s"), ("ann", "", 9, 9))
        self.assertEqual(debt_of(state_of(texts, 2), "s"), ("ann", "", 9, 5))
        self.assertEqual(debt_of(state_of(texts, 3), "s"), ("ann", "", 9, 1))
        self.assertEqual(debt_of(state_of(texts, 4), "s"), ("ann", "", 9, 0))
        self.assertEqual(debt_of(state_of(texts, MOST), "s"), ("ann", "", 9, 0))

    def test_a_spending_that_found_some(self):
        state = state_of(["buy a 1 ann tea 4", "spend s 1 ann 9"], 1)
        self.assertEqual(debt_of(state, "s"), ("ann", "", 5, 5))

    def test_to_the_house_by_a_taking_back(self):
        texts = ["buy a 1 ann tea 9", "spend s 2 ann 7", "back r 3 a", "buy b 4 ann tea 3", "buy c 5 ann tea 4"]
        self.assertEqual(debt_of(state_of(texts, 3), "r"), ("ann", "", 7, 7))
        self.assertEqual(debt_of(state_of(texts, 4), "r"), ("ann", "", 7, 4))
        self.assertEqual(debt_of(state_of(texts, 5), "r"), ("ann", "", 7, 0))

    def test_to_a_purse_by_a_lending(self):
        texts = ["buy a 1 bob tea 9", "lend l 1 bob ann 9 4", "spend s 2 ann 6", "buy b 5 ann tea 2", "buy c 6 ann tea 9"]
        self.assert_no_deed(debt_of, state_of(texts, 3), "l")
        self.assertEqual(debt_of(state_of(texts, 4), "l"), ("ann", "bob", 6, 6))
        self.assertEqual(debt_of(state_of(texts, 5), "l"), ("ann", "bob", 6, 4))
        self.assertEqual(debt_of(state_of(texts, 6), "l"), ("ann", "bob", 6, 0))

    def test_several_of_one_purse_are_paid_in_order(self):
        state = state_of(["spend t 1 ann 4", "spend s 2 ann 3", "spend u 2 ann 2", "spend v 2 bob 8", "buy a 3 ann tea 6"], 3)
        self.assertEqual(debt_of(state, "t"), ("ann", "", 4, 0))
        self.assertEqual(debt_of(state, "s"), ("ann", "", 3, 1))
        self.assertEqual(debt_of(state, "u"), ("ann", "", 2, 2))
        self.assertEqual(debt_of(state, "v"), ("bob", "", 8, 8))

    def test_what_was_paid_to_the_house_is_in_ends(self):
        state = state_of(["spend s 1 ann 9", "buy a 2 ann tea 4", "buy b 3 ann tea 3"], 3)
        purse, to, came, left = debt_of(state, "s")
        paid = sum([end[5] for end in state.ends if end[1] == "paid" and end[3] == "s"])
        self.assertEqual((purse, to, came - left, paid), ("ann", "", 7, 7))

    def test_none_came_by_it(self):
        state = state_of(
            ["buy a 1 ann tea 9", "spend s 1 ann 9", "buy b 1 bob tea 9", "lend l 1 bob ann 9 4", "back r 2 b",
             "change c 3 ann dan 5", "give g 3 ann bob 5", "spend t 9 ann 3"], 8
        )
        self.assertEqual(debt_of(state, "r"), ("bob", "", 9, 9))
        for ref in ("a", "s", "b", "l", "c", "g", "t", "x", "zzz", "ann", "bob", "shop", ""):
            self.assert_no_deed(debt_of, state, ref)
        self.assert_no_deed(debt_of, state_of([], 8), "s")

    def test_it_is_a_tuple_and_the_state_stays(self):
        state = state_of(TEXTS, 20)
        kept = fields_of(state)
        self.assertIs(type(debt_of(state, "g")), tuple)
        self.assertEqual(debt_of(state, "g"), ("bob", "", 3, 0))
        self.assertEqual(debt_of(state, "e"), ("bob", "ann", 6, 4))
        self.assertEqual(debt_of(state, "i"), ("ann", "", 25, 25))
        self.assertEqual(debt_of(state, "l"), ("dan", "", 2, 2))
        self.assertEqual(fields_of(state), kept)


if __name__ == "__main__":
    unittest.main()
