"""[22] to [24], with [1] and [2]: statements, sessions, and what is refused of them."""

import copy
import itertools
import unittest

from pointpurse.books import Book
from pointpurse.deedtext import read_deed
from pointpurse.errors import BadBook, BadHouse, BadText, PurseError
from pointpurse.houses import House
from pointpurse.session import answers, statement
from pointpurse.walk import walked

MOST = 999999999999

SHOP = "house shop 1 1 - - - 5 0"
MILL = "house mill 1 1 - - - 5 0"
BOOK = (SHOP, MILL, "purse ann shop", "purse bob shop", "purse dan mill", "rate shop mill 1 2")
CALLS = ("tell 3 buy r 3 ann tea 50", "ask ann 3", "known ann 3 2", "story r 3", "sums shop 3")


def session(*lines):
    return "\n".join(lines)


class SessionTestCase(unittest.TestCase):
    maxDiff = None

    def assert_answers(self, lines, expected):
        """The session of these lines is answered so, each time that it is asked."""
        text = session(*lines)
        told = answers(text)
        self.assertEqual(told, expected)
        self.assertIs(type(told), list)
        self.assertTrue(all(type(part) is str for part in told))
        self.assertEqual(answers(text), expected)

    def assert_bad_text(self, lines, number):
        """The session is refused with just BadText, and tells the number of the line."""
        with self.subTest(lines=lines):
            with self.assertRaises(PurseError) as caught:
                answers(session(*lines))
            self.assertIs(type(caught.exception), BadText)
            self.assertEqual(caught.exception.line, number)
            self.assertIs(type(caught.exception.line), int)
            self.assertFalse(any(sign.isdigit() for sign in str(caught.exception)))

    def assert_refused(self, refusal, lines):
        with self.subTest(lines=lines):
            with self.assertRaises(PurseError) as caught:
                answers(session(*lines))
            self.assertIs(type(caught.exception), refusal)


class Statements(unittest.TestCase):
    maxDiff = None

    def book_of(self, age=None, rest=None, ranks=((10, "tin"), (20, "gold")), span=5, grace=0):
        shop = House("shop", (1, 1), [], [], [], None, age, rest, ranks, span, grace)
        return Book([shop], [("ann", "shop"), ("bob", "shop")], [])

    def assert_statement(self, book, texts, day, purse, expected):
        state = walked(book, [read_deed(text) for text in texts], day)
        kept = copy.deepcopy(vars(state))
        self.assertEqual(statement(state, book, purse), expected)
        self.assertEqual(copy.deepcopy(vars(state)), kept)

    def test_nothing(self):
        self.assert_statement(self.book_of(), [], 0, "ann", "ann 0 has 0 owes 0 rank 0 falls - lapse - -")
        self.assert_statement(self.book_of(), [], MOST, "bob", f"bob {MOST} has 0 owes 0 rank 0 falls - lapse - -")

    def test_all_numbers(self):
        texts = ["spend a 1 ann 4", "buy b 2 bob tea 9", "lend c 2 bob ann 3 30", "buy d 3 ann tea 25", "spend e 4 ann 5",
                 "spend f 4 bob 8"]
        book = self.book_of(age=10)
        self.assert_statement(book, texts, 3, "ann", "ann 3 has 24 owes 0 rank 2 falls 8 lapse 12 3")
        # The eldest are the lent ones.
        self.assert_statement(book, texts, 4, "ann", "ann 4 has 19 owes 0 rank 2 falls 8 lapse 13 19")
        self.assert_statement(book, texts, 4, "bob", "bob 4 has 0 owes 2 rank 0 falls - lapse - -")
        self.assert_statement(book, texts, 3, "bob", "bob 3 has 6 owes 0 rank 0 falls - lapse 12 6")
        self.assert_statement(book, texts, 30, "ann", "ann 30 has 0 owes 3 rank 0 falls - lapse - -")

    def test_own_and_lent_points_together(self):
        texts = ["buy a 2 bob tea 9", "lend b 2 bob ann 3 30", "buy c 3 ann tea 5"]
        self.assert_statement(self.book_of(), texts, 3, "ann", "ann 3 has 8 owes 0 rank 0 falls - lapse - -")

    def test_several_debts_together(self):
        texts = ["buy a 1 bob tea 9", "lend b 1 bob ann 6 3", "spend c 1 ann 8", "spend d 2 ann 5"]
        self.assert_statement(self.book_of(), texts, 2, "ann", "ann 2 has 0 owes 7 rank 0 falls - lapse - -")
        self.assert_statement(self.book_of(), texts, 3, "ann", "ann 3 has 0 owes 13 rank 0 falls - lapse - -")

    def test_a_fall_without_a_lapse_and_a_lapse_without_a_fall(self):
        texts = ["buy a 2 ann tea 10"]
        self.assert_statement(self.book_of(), texts, 2, "ann", "ann 2 has 10 owes 0 rank 1 falls 7 lapse - -")
        self.assert_statement(
            self.book_of(rest=3, ranks=()), texts, 2, "ann", "ann 2 has 10 owes 0 rank 0 falls - lapse 5 10"
        )

    def test_the_rank_of_the_states_day_with_its_grace(self):
        texts = ["buy a 2 ann tea 10"]
        book = self.book_of(grace=2)
        self.assert_statement(book, texts, 8, "ann", "ann 8 has 10 owes 0 rank 1 falls 9 lapse - -")
        self.assert_statement(book, texts, 9, "ann", "ann 9 has 10 owes 0 rank 0 falls - lapse - -")

    def test_great_numbers(self):
        book = self.book_of(age=MOST, span=MOST, grace=MOST)
        day = 3 * MOST
        self.assert_statement(
            book, [f"buy a {MOST} ann tea {MOST}", f"buy b {MOST} ann nut {MOST}"], MOST, "ann",
            f"ann {MOST} has {2 * MOST} owes 0 rank 2 falls {day} lapse {2 * MOST} {2 * MOST}",
        )


class Answers(SessionTestCase):
    def test_without_calls(self):
        self.assert_answers([SHOP], [])
        self.assert_answers(BOOK, [])
        self.assertIsNot(answers(SHOP), answers(SHOP))

    def test_each_call(self):
        self.assert_answers(
            [*BOOK, "tell 3 buy r 3 ann tea 50", "ask ann 3", "tell 4 spend s 4 ann 20", "known ann 3 3", "story r 4",
             "sums shop 4", "known ann 4 4"],
            ["done", "ann 3 has 50 owes 0 rank 0 falls - lapse - -", "done",
             "ann 3 has 50 owes 0 rank 0 falls - lapse - -", "left ann - 3 30, spent ann s 4 20", "50 30 20 0 0 0 0",
             "NotOver"],
        )

    # What each line of the book does shows in a statement, a story or a sum.
    HOUSES = ("house shop 3 2 100 30 20 6 1", "house mill 1 1 - - - 1 0")
    REST = (
        "kind shop tea 2", "step shop 10 4", "double shop 5 6 3", "rank shop 10 tin", "purse ann shop",
        "purse dan mill", "rate shop mill 1 2", "rate mill shop 2 1",
    )
    DONE = (
        "tell 9 buy a 1 ann tea 4 nut 6", "tell 9 buy b 5 ann nut 7", "tell 9 buy c 6 ann nut 70 tea 80",
        "tell 9 change d 9 ann dan 15", "tell 9 change e 9 dan ann 2", "story a 9", "story b 9", "story c 9", "story d 9",
        "sums shop 9", "sums mill 9", "ask ann 9", "ask dan 9",
    )
    # a brings 14 * 3 // 2 + 4 = 25, b brings 7 * 3 // 2 * 3 = 30, c would bring more than the cap.
    TOLD = [
        "done", "done", "done", "done", "done", "changed ann d 9 15, left ann - 1 10", "left ann - 5 30",
        "left ann - 6 100", "changed dan e 9 2, left dan - 9 5", "159 144 0 0 0 0 15", "7 5 0 0 0 0 2",
        "ann 9 has 144 owes 0 rank 1 falls 13 lapse 29 144", "dan 9 has 5 owes 0 rank 0 falls - lapse - -",
    ]

    def test_all_lines_of_the_book(self):
        self.assert_answers([*self.HOUSES, *self.REST, *self.DONE], self.TOLD)

    def test_the_lines_of_the_book_in_several_orders(self):
        shop, mill = self.HOUSES
        for turn in range(len(self.REST)):
            turned = self.REST[turn:] + self.REST[:turn]
            self.assert_answers([mill, shop, *turned, *self.DONE], self.TOLD)
        ahead = [line for line in self.REST if "mill" not in line]
        behind = [line for line in self.REST if "mill" in line]
        self.assert_answers([shop, *ahead, mill, *behind, *self.DONE], self.TOLD)
        self.assert_answers([shop, *reversed(ahead), mill, *reversed(behind), *self.DONE], self.TOLD)

    def test_lists_of_a_house_stand_in_the_order_of_their_lines(self):
        book = [SHOP, "rank shop 2 tin", MILL, "step mill 5 1", "rank shop 4 gold", "step mill 6 2", "purse ann shop",
                "purse dan mill", "rank shop 6 tin"]
        self.assert_answers(
            [*book, "tell 3 buy a 3 ann tea 5", "tell 3 buy b 3 dan tea 6", "tell 3 buy c 3 dan tea 5", "ask ann 3",
             "ask dan 3"],
            ["done", "done", "done", "ann 3 has 5 owes 0 rank 2 falls 8 lapse - -",
             "dan 3 has 14 owes 0 rank 0 falls - lapse - -"],
        )
        self.assert_refused(BadHouse, [SHOP, "rank shop 4 tin", "rank shop 2 gold"])

    def test_a_stroke_for_none_of_cap_age_rest(self):
        for cap, age, rest, expected in (
            ("-", "-", "-", "has 50 owes 0 rank 0 falls - lapse - -"),
            ("20", "-", "-", "has 20 owes 0 rank 0 falls - lapse - -"),
            ("0", "-", "-", "has 0 owes 0 rank 0 falls - lapse - -"),
            ("-", "9", "-", "has 50 owes 0 rank 0 falls - lapse 12 50"),
            ("-", "-", "7", "has 50 owes 0 rank 0 falls - lapse 10 50"),
            ("30", "9", "8", "has 30 owes 0 rank 0 falls - lapse 11 30"),
        ):
            self.assert_answers(
                [f"house shop 1 1 {cap} {age} {rest} 5 0", "purse ann shop", "tell 3 buy r 3 ann tea 50", "ask ann 3"],
                ["done", "ann 3 " + expected],
            )

    def test_span_and_grace(self):
        book = ["house shop 1 1 - - - 2 3", "rank shop 10 tin", "purse ann shop", "tell 4 buy r 4 ann tea 10"]
        self.assert_answers(
            [*book, "ask ann 4", "ask ann 8", "ask ann 9"],
            ["done", "ann 4 has 10 owes 0 rank 1 falls 9 lapse - -", "ann 8 has 10 owes 0 rank 1 falls 9 lapse - -",
             "ann 9 has 10 owes 0 rank 0 falls - lapse - -"],
        )

    def test_each_deed_is_done(self):
        self.assert_answers(
            [*BOOK, "tell 1 buy a 1 ann tea 40 nut 10", "tell 2 spend b 2 ann 4", "tell 2 spend c 2 ann 5 a",
             "tell 3 give d 3 ann bob 6", "tell 4 lend e 4 ann bob 7 9", "tell 5 change f 5 ann dan 8",
             "tell 6 fix g a tea 60", "story a 6", "tell 7 back h 7 a", "story a 9", "story f 9"],
            ["done"] * 7
            + ["changed ann f 5 8, left ann - 1 30, left bob - 1 6, left bob e 1 7, spent ann b 2 4, spent ann c 2 5",
               "done",
               "changed ann f 5 8, left ann - 1 7, left bob - 1 6, spent ann b 2 4, spent ann c 2 5, taken ann h 7 30",
               "left dan - 5 4"],
        )

    def test_each_refusal_of_a_tell(self):
        self.assert_answers(
            [*BOOK, "purse eve mill", "tell 3 buy a 3 ann tea 50", "tell 3 give b 3 ann dan 5", "tell 3 buy a 3 bob tea 1",
             "tell 3 back b 3 x", "tell 2 buy b 2 ann tea 1", "tell 3 buy b 4 ann tea 1", "tell 3 change b 3 dan ann 1",
             "tell 3 spend b 3 ann 51", "tell 3 back b 3 a", "tell 3 back c 3 a", "tell 3 back a 3 a", "ask ann 3"],
            ["done", "BadDeed", "Twice", "NoDeed", "WrongDay", "WrongDay", "NoRate", "TooFew", "done", "Twice", "BadDeed",
             "ann 3 has 0 owes 0 rank 0 falls - lapse - -"],
        )

    def test_bad_deeds_of_a_text_that_is_none(self):
        for text in (
            "x", "buy", "done", "-", "ask ann 3", "tell 3 buy r 3 ann tea 50", "buy r 3 ann tea", "buy r 03 ann tea 5",
            "buy r 3 ann tea 1234567890123", "buy r 3 zoe tea 5", "buy R 3 ann tea 5", "spend s 3 ann 0",
            "house shop 1 1 - - - 5 0", "give g 3 ann ann 5", "1", "# ~",
        ):
            self.assert_answers([*BOOK, "tell 3 " + text, "ask ann 3"], [
                "BadDeed", "ann 3 has 0 owes 0 rank 0 falls - lapse - -",
            ])

    def test_a_bad_deed_is_told_ahead_of_a_wrong_day(self):
        self.assert_answers(
            [*BOOK, "tell 9 buy a 3 ann tea 5", "tell 2 buy b 99 ann tea", "tell 2 buy b 99 ann tea 5"],
            ["done", "BadDeed", "WrongDay"],
        )

    def test_calls_in_any_order_among_the_tells(self):
        self.assert_answers(
            [*BOOK, "story a 9", "sums shop 9", "ask ann 9", "known ann 9 0", "tell 5 buy a 3 ann tea 5", "story a 9",
             "story a 2", "known ann 9 4", "known ann 9 5", "tell 6 fix b a tea 7", "known ann 9 5", "ask ann 9",
             "ask ann 2", "sums shop 2", "sums shop 3"],
            ["NoDeed", "0 0 0 0 0 0 0", "ann 9 has 0 owes 0 rank 0 falls - lapse - -", "NotOver", "done",
             "left ann - 3 5", "NoDeed", "ann 9 has 0 owes 0 rank 0 falls - lapse - -", "NotOver", "done",
             "ann 9 has 5 owes 0 rank 0 falls - lapse - -", "ann 9 has 7 owes 0 rank 0 falls - lapse - -",
             "ann 2 has 0 owes 0 rank 0 falls - lapse - -", "0 0 0 0 0 0 0", "7 7 0 0 0 0 0"],
        )

    def test_not_over(self):
        self.assert_answers([*BOOK, "known ann 3 0"], ["NotOver"])
        tells = ["tell 5 buy a 3 ann tea 5", "tell 2 buy b 2 ann tea 5"]
        self.assert_answers(
            [*BOOK, *tells, "known ann 3 4", "known ann 3 5", "known bob 0 6", f"known dan {MOST} {MOST}"],
            ["done", "WrongDay", "ann 3 has 0 owes 0 rank 0 falls - lapse - -", "NotOver", "NotOver", "NotOver"],
        )

    def test_stories(self):
        tells = ["tell 3 buy a 3 ann tea 5", "tell 3 buy b 3 ann tea 0", "tell 3 change c 3 ann dan 1"]
        self.assert_answers(
            [*BOOK, *tells, "story a 3", "story b 3", "story c 3", "story d 3", "story a 2", "story ann 3", "story - 3",
             "story Zz,9 3", "story 3 3"],
            ["done", "done", "done", "changed ann c 3 1, left ann - 3 4", "", "", "NoDeed", "NoDeed", "NoDeed", "NoDeed",
             "NoDeed", "NoDeed"],
        )

    def test_a_stroke_for_each_empty_text_of_a_story(self):
        self.assert_answers(
            ["house shop 1 1 - 5 - 5 0", *BOOK[2:4], "tell 9 buy a 3 ann tea 9", "tell 9 lend b 3 ann bob 2 6",
             "tell 9 lend c 4 ann bob 3 20", "story a 3", "story a 7", "story a 8"],
            ["done", "done", "done", "left ann - 3 7, left bob b 3 2", "left ann - 3 6, left bob c 3 3",
             "lapsed ann - 8 6, lapsed bob - 8 3"],
        )

    def test_sums_of_each_house(self):
        self.assert_answers(
            ["house shop 1 1 - 5 - 5 0", MILL, "house inn 1 1 - - - 5 0", *BOOK[2:], "tell 1 buy a 1 ann tea 9",
             "tell 2 spend b 2 ann 2", "tell 3 change c 3 ann dan 3", "tell 3 buy d 0 bob nut 1", "tell 4 buy e 4 bob tea 5",
             "tell 4 back f 4 e", "sums shop 4", "sums mill 4", "sums inn 4", "sums shop 6", "sums shop 0"],
            ["done"] * 6 + ["15 5 2 0 5 0 3", "1 1 0 0 0 0 0", "0 0 0 0 0 0 0", "15 0 2 5 5 0 3", "1 1 0 0 0 0 0"],
        )

    def test_sums_of_points_that_were_paid(self):
        self.assert_answers(
            [*BOOK, "tell 1 buy a 1 ann tea 9", "tell 2 spend b 2 ann 9", "tell 3 fix c a tea 5", "tell 4 buy d 4 ann tea 6",
             "sums shop 3", "sums shop 4", "ask ann 3"],
            ["done"] * 4 + ["5 0 5 0 0 0 0", "11 2 5 0 0 4 0", "ann 3 has 0 owes 4 rank 0 falls - lapse - -"],
        )

    def test_blanks_and_blank_lines(self):
        expected = ["done", "ann 3 has 50 owes 0 rank 0 falls - lapse - -"]
        self.assert_answers(
            ["", "   ", "  house   shop 1  1 - -  - 5 0  ", "", " purse ann   shop", "     ",
             "  tell  3   buy  r 3   ann tea  50   ", " ", "ask   ann 3 ", "", " "],
            expected,
        )
        lines = [SHOP, BOOK[2], "tell 3 buy r 3 ann tea 50", "ask ann 3"]
        for many in (1, 2, 3):
            self.assertEqual(answers(("\n" * many).join(lines)), expected)
            self.assertEqual(answers("\n" * many + session(*lines) + "\n" * many), expected)

    def test_names_that_are_like_words_of_the_forms(self):
        self.assert_answers(
            ["house house 1 1 - - - 5 0", "house tell 1 1 - - - 5 0", "kind house kind 2", "rank house 4 rank",
             "purse ask house", "purse sums tell", "purse purse house", "rate house tell 1 1",
             "tell 3 buy buy 3 ask kind 4 tell 1", "ask ask 3", "tell 3 change story 3 ask sums 2", "story story 3",
             "sums tell 3", "sums house 3"],
            ["done", "ask 3 has 9 owes 0 rank 1 falls 8 lapse - -", "done", "left sums - 3 2", "2 2 0 0 0 0 0",
             "9 7 0 0 0 0 2"],
        )

    def test_numbers_of_twelve_figures(self):
        self.assert_answers(
            [f"house shop {MOST} {MOST} {MOST} {MOST} {MOST} {MOST} {MOST}", f"rank shop {MOST} tin", "purse ann shop",
             f"tell {MOST} buy a {MOST} ann tea {MOST}", f"ask ann {MOST}", f"known ann {MOST} {MOST}", f"story a {MOST}",
             f"sums shop {MOST}"],
            ["done", f"ann {MOST} has {MOST} owes 0 rank 1 falls {3 * MOST} lapse {2 * MOST} {MOST}", "NotOver",
             f"left ann - {MOST} {MOST}", f"{MOST} {MOST} 0 0 0 0 0"],
        )

    def test_the_list_is_the_askers_own(self):
        text = session(*BOOK, *CALLS)
        told = answers(text)
        again = answers(text)
        self.assertIsNot(told, again)
        as_told = list(told)
        told.clear()
        self.assertEqual(again, as_told)
        self.assertEqual(answers(text), as_told)

    def test_a_long_session(self):
        lines = list(BOOK)
        refs = ["".join(letters) for letters in itertools.islice(itertools.product("abcdefgh", repeat=3), 199)]
        lines += [f"tell {day} buy {ref} {day} ann tea 5" for day, ref in enumerate(refs)]
        lines += [f"tell 500 spend z 500 ann {5 * len(refs)}", "ask ann 499", "ask ann 500", "sums shop 500"]
        points = 5 * len(refs)
        self.assert_answers(
            lines,
            ["done"] * (len(refs) + 1)
            + [f"ann 499 has {points} owes 0 rank 0 falls - lapse - -", "ann 500 has 0 owes 0 rank 0 falls - lapse - -",
               f"{points} 0 {points} 0 0 0 0"],
        )


class BadTexts(SessionTestCase):
    BOOK_LINES = (
        "house inn 1 1 - - - 5 0", "house inn 1 1 2 3 4 5 0", "kind shop tea 2", "step shop 10 4", "double shop 5 6 3",
        "rank shop 10 tin", "purse cid shop", "rate mill shop 2 1",
    )

    def test_the_lines_that_are_spoilt_below_are_of_their_forms(self):
        self.assert_answers([*BOOK, *self.BOOK_LINES[1:]], [])
        self.assert_answers([*BOOK, *CALLS], [
            "done", "ann 3 has 50 owes 0 rank 0 falls - lapse - -", "ann 3 has 0 owes 0 rank 0 falls - lapse - -",
            "left ann - 3 50", "50 50 0 0 0 0 0",
        ])

    def test_a_word_too_few(self):
        for line in self.BOOK_LINES + CALLS[1:] + ("tell 3 buy",):
            words = line.split()
            for many in range(1, len(words)):
                self.assert_bad_text([*BOOK, " ".join(words[:many])], len(BOOK) + 1)
            self.assert_bad_text([*BOOK, " ".join(words[1:])], len(BOOK) + 1)

    def test_a_word_too_many(self):
        for line in self.BOOK_LINES + CALLS[1:]:
            for more in ("1", "-", "shop", "ann"):
                self.assert_bad_text([*BOOK, line + " " + more], len(BOOK) + 1)

    def test_a_number_that_is_none(self):
        wrong = ("03", "00", "-1", "+1", "1000000000000", "x", "1x", "1.0", "1_0", "0x1", ",", "--")
        for line, places in (
            ("house inn 1 1 2 3 4 5 6", (2, 3, 4, 5, 6, 7, 8)), ("kind shop tea 2", (3,)), ("step shop 10 4", (2, 3)),
            ("double shop 5 6 3", (2, 3, 4)), ("rank shop 10 tin", (2,)), ("rate mill shop 2 1", (3, 4)),
            ("tell 3 buy r 3 ann tea 50", (1,)), ("ask ann 3", (2,)), ("known ann 3 4", (2, 3)), ("story r 3", (2,)),
            ("sums shop 3", (2,)),
        ):
            for place in places:
                for word in wrong:
                    words = line.split()
                    words[place] = word
                    self.assert_bad_text([*BOOK, " ".join(words)], len(BOOK) + 1)

    def test_a_stroke_where_a_number_must_be(self):
        for line in (
            "house inn - 1 - - - 5 0", "house inn 1 - - - - 5 0", "house inn 1 1 - - - - 0", "house inn 1 1 - - - 5 -",
            "kind shop tea -", "step shop - 4", "step shop 4 -", "double shop - 6 3", "double shop 5 - 3",
            "double shop 5 6 -", "rank shop - tin", "rate mill shop - 1", "rate mill shop 1 -", "tell - buy r 3 ann tea 5",
            "ask ann -", "known ann - 3", "known ann 3 -", "story r -", "sums shop -",
        ):
            self.assert_bad_text([*BOOK, line], len(BOOK) + 1)

    def test_a_strange_first_word(self):
        for line in (
            "x", "houses shop 1 1 - - - 5 0", "House shop 1 1 - - - 5 0", "Tell 3 buy r 3 ann tea 50", "asks ann 3",
            "buy r 3 ann tea 50", "3 tell buy r 3 ann tea 50", "-", "# remark", "done", "debt r 3", ".", "house: shop",
            "tell3 buy r 3 ann tea 50", "word 1", "deed", "number", "maybe",
        ):
            self.assert_bad_text([*BOOK, line], len(BOOK) + 1)
            self.assert_bad_text([line, *BOOK], 1)
            self.assert_bad_text([*BOOK, *CALLS, line], len(BOOK) + len(CALLS) + 1)

    def test_a_line_of_the_book_behind_another_one(self):
        for call in CALLS:
            for line in self.BOOK_LINES + (SHOP,):
                self.assert_bad_text([*BOOK, call, line], len(BOOK) + 2)
                self.assert_bad_text([*BOOK, call, "", call, line, call], len(BOOK) + 4)

    def test_a_line_ahead_of_its_houses_line(self):
        for line in ("kind shop tea 2", "step shop 10 4", "double shop 5 6 3", "rank shop 10 tin", "purse ann shop"):
            self.assert_bad_text([line, SHOP], 1)
            self.assert_bad_text([MILL, line, SHOP], 2)
        rate = "rate shop mill 1 2"
        self.assert_bad_text([rate, SHOP, MILL], 1)
        self.assert_bad_text([SHOP, rate, MILL], 2)
        self.assert_bad_text([MILL, rate, SHOP], 2)

    def test_a_house_that_is_not_told(self):
        for line in (
            "kind inn tea 2", "step inn 10 4", "double inn 5 6 3", "rank inn 10 tin", "purse cid inn", "rate shop inn 1 1",
            "rate inn shop 1 1", "kind ann tea 2", "kind Shop tea 2", "kind - tea 2",
        ):
            self.assert_bad_text([*BOOK, line], len(BOOK) + 1)
            self.assert_bad_text([*BOOK, line, "house inn 1 1 - - - 5 0"], len(BOOK) + 1)

    def test_a_purse_or_house_of_a_call_that_is_not_the_books(self):
        for line in (
            "ask zoe 3", "ask shop 3", "ask Ann 3", "ask - 3", "known zoe 3 4", "known shop 3 4", "sums inn 3", "sums ann 3",
            "sums - 3",
        ):
            self.assert_bad_text([*BOOK, line], len(BOOK) + 1)
            self.assert_bad_text([*BOOK, *CALLS, line], len(BOOK) + len(CALLS) + 1)

    def test_a_purse_that_is_told_only_behind_the_call(self):
        self.assert_bad_text([SHOP, "ask ann 3", "purse ann shop"], 2)

    def test_a_story_or_a_tell_may_name_what_it_likes(self):
        self.assert_answers([*BOOK, "story zoe 3", "tell 3 buy r 3 zoe tea 5"], ["NoDeed", "BadDeed"])

    def test_blank_lines_count(self):
        self.assert_bad_text(["", "x"], 2)
        self.assert_bad_text(["", "   ", SHOP, "", " ", "purse ann inn"], 6)
        self.assert_bad_text(["x", "", ""], 1)

    def test_the_first_of_several(self):
        self.assert_bad_text([SHOP, "purse ann inn", "x", "kind inn tea 2"], 2)
        self.assert_bad_text([SHOP, "x", "purse ann inn"], 2)
        self.assert_bad_text([*BOOK, "ask zoe 3", "house inn", "x"], len(BOOK) + 1)
        self.assert_bad_text([*BOOK, "ask ann 3", "house inn 1 1 - - - 5 0", "ask zoe 3"], len(BOOK) + 2)
        self.assert_bad_text([*BOOK, "ask ann 3", "ask ann", "purse zoe shop"], len(BOOK) + 2)

    def test_no_other_sign_than_the_blank_parts_words(self):
        self.assert_bad_text([*BOOK, "ask\tann\t3"], len(BOOK) + 1)
        self.assert_bad_text([*BOOK, "ask ann,3"], len(BOOK) + 1)

    def test_it_is_told_ahead_of_bad_houses_and_bad_books(self):
        self.assert_bad_text(["house shop 1 0 - - - 5 0", "x"], 2)
        self.assert_bad_text([SHOP, SHOP, "purse ann shop", "purse ann shop", "ask ann 3", "ask bob 3"], 6)
        self.assert_bad_text(["x"], 1)
        self.assert_bad_text(["ask ann 3"], 1)


class BadHousesAndBooks(SessionTestCase):
    def test_bad_houses(self):
        for lines in (
            ["house Shop 1 1 - - - 5 0"], ["house abcdefghi 1 1 - - - 5 0"], ["house - 1 1 - - - 5 0"],
            ["house 7 1 1 - - - 5 0"], ["house shop 1 0 - - - 5 0"], ["house shop 1 1 - 0 - 5 0"],
            ["house shop 1 1 - - 0 5 0"], ["house shop 1 1 - - - 0 0"], [SHOP, "kind shop Tea 1"],
            [SHOP, "kind shop tea 1", "kind shop tea 2"], [SHOP, "step shop 5 1", "step shop 5 2"],
            [SHOP, "step shop 5 1", "step shop 4 2"], [SHOP, "double shop 6 5 2"], [SHOP, "double shop 5 6 0"],
            [SHOP, "rank shop 0 tin"], [SHOP, "rank shop 5 Tin"], [SHOP, "rank shop 5 -"],
            [SHOP, "rank shop 5 tin", "rank shop 5 gold"],
        ):
            self.assert_refused(BadHouse, lines)
            self.assert_refused(BadHouse, [MILL, *lines, "sums mill 3", "tell 3 x"])

    def test_noughts_that_a_house_may_have(self):
        self.assert_answers(
            ["house shop 0 1 0 - - 5 0", "kind shop tea 0", "step shop 0 0", "double shop 0 0 1", "rank shop 1 tin",
             "sums shop 0"],
            ["0 0 0 0 0 0 0"],
        )

    def test_bad_books(self):
        for lines in (
            [], [""], ["  ", "", " "], ["tell 3 buy r 3 ann tea 50"], ["story r 3"], [SHOP, SHOP], [SHOP, MILL, SHOP],
            [*BOOK, "purse ann shop"], [*BOOK, "purse ann mill"], [SHOP, "purse Ann shop"], [SHOP, "purse - shop"],
            [SHOP, "purse abcdefghi shop"], [SHOP, "purse 7 shop"], [*BOOK, "rate shop shop 1 1"],
            [*BOOK, "rate mill shop 1 0"], [*BOOK, "rate shop mill 1 2"], [*BOOK, "rate shop mill 3 4"],
        ):
            self.assert_refused(BadBook, lines)
            if len(lines) > 1 and "purse ann shop" in lines:
                self.assert_refused(BadBook, [*lines, *CALLS])

    def test_a_purse_that_is_no_name_may_be_asked_of_and_is_refused_with_its_book(self):
        self.assert_refused(BadBook, [SHOP, "purse Ann shop", "ask Ann 3"])

    def test_bad_houses_ahead_of_bad_books(self):
        self.assert_refused(BadHouse, [SHOP, SHOP, "house inn 1 0 - - - 5 0"])
        self.assert_refused(BadHouse, [SHOP, "purse ann shop", "purse ann shop", "house mill 1 1 - - - 0 0"])
        self.assert_refused(BadHouse, [SHOP, "purse Ann shop", "rate shop shop 1 1", "rank shop 0 tin"])

    def test_of_houses_of_one_name_the_last_one_ahead_gets_the_lines(self):
        for first, second in (
            ("rank shop 5 tin", "rank shop 5 tin"), ("rank shop 5 tin", "rank shop 4 tin"),
            ("kind shop tea 1", "kind shop tea 1"), ("step shop 5 1", "step shop 5 1"),
        ):
            # Two alike in one house's list would be refused as BadHouse.
            self.assert_refused(BadBook, [SHOP, first, SHOP, second])
            self.assert_refused(BadBook, [SHOP, MILL, first, SHOP, second, MILL, second.replace("shop", "mill")])
            self.assert_refused(BadHouse, [SHOP, first, second, SHOP])
            self.assert_refused(BadHouse, [SHOP, SHOP, first, second])
        self.assert_refused(BadHouse, [SHOP, "double shop 5 6 1", SHOP, "double shop 6 5 1"])
        self.assert_refused(BadHouse, [SHOP, "rank shop 5 tin", SHOP, "rank shop 4 tin", MILL, "rank shop 4 tin"])

    def test_nothing_is_told_where_something_is_refused(self):
        self.assert_refused(BadBook, [*BOOK, "purse ann shop", *CALLS])
        self.assert_refused(BadHouse, [*BOOK, "rank shop 0 tin", *CALLS])
        self.assert_bad_text([*BOOK, *CALLS, *CALLS, "x"], len(BOOK) + 2 * len(CALLS) + 1)


if __name__ == "__main__":
    unittest.main()
