"""[16] and [17], with [1] and [2]: ledgers, what they refuse, and what was known when.

Deeds stand here by their texts [7]; a buy brings as many points as it has money.
"""

import copy
import unittest

from pointpurse.books import Book
from pointpurse.deedtext import read_deed
from pointpurse.errors import BadDeed, NoDeed, NoRate, NotOver, PurseError, TooFew, Twice, WrongDay
from pointpurse.houses import House
from pointpurse.ledger import Ledger
from pointpurse.walk import State, walked

MOST = 999999999999
FIELDS = ("day", "rows", "debts", "earned", "ends", "owed", "odds", "backs")


def house(name, age=None, rest=None, cap=None):
    return House(name, (1, 1), [], [], [], cap, age, rest, [], 30, 0)


def book_of(**fields):
    """shop may be changed into mill, and nothing else into anything."""
    return Book(
        [house("shop", **fields), house("mill"), house("inn")],
        [("ann", "shop"), ("bob", "shop"), ("cid", "shop"), ("dan", "mill"), ("eve", "mill"), ("fay", "inn")],
        [("shop", "mill", 1, 2)],
    )


BOOK = book_of()


def ledger_of(*tellings, book=BOOK):
    """A ledger to which each telling was told: a day, a blank and the text of a deed."""
    ledger = Ledger(book)
    for telling in tellings:
        day, text = telling.split(" ", 1)
        ledger.tell(read_deed(text), int(day))
    return ledger


def fields_of(state):
    return {field: getattr(state, field) for field in FIELDS}


class LedgerTestCase(unittest.TestCase):
    maxDiff = None

    def assert_state(self, state, book, texts, day):
        """The state is a State, and what walked tells of these deeds."""
        self.assertIs(type(state), State)
        self.assertEqual(fields_of(state), fields_of(walked(book, [read_deed(text) for text in texts], day)))

    def assert_refused(self, refusal, ledger, deed, told):
        """The deed, or its text, is refused with just this class, and the ledger stays as it was."""
        deed = read_deed(deed) if isinstance(deed, str) else deed
        tellings = ledger.tellings()
        settled = ledger.settled(len(tellings))
        state = fields_of(ledger.state(50))
        with self.subTest(deed=deed, told=told):
            with self.assertRaises(PurseError) as caught:
                ledger.tell(deed, told)
            self.assertIs(type(caught.exception), refusal)
            self.assertEqual(ledger.tellings(), tellings)
            self.assertEqual(ledger.settled(len(tellings)), settled)
            self.assertEqual(fields_of(ledger.state(50)), state)

    def assert_taken(self, ledger, text, told):
        tellings = ledger.tellings()
        self.assertIsNone(ledger.tell(read_deed(text), told))
        self.assertEqual(ledger.tellings(), tellings + [(read_deed(text), told)])


class Telling(LedgerTestCase):
    def test_the_book(self):
        self.assertIs(Ledger(BOOK).book, BOOK)

    def test_a_new_ledger(self):
        ledger = Ledger(BOOK)
        self.assertEqual(ledger.tellings(), [])
        self.assertEqual(ledger.settled(0), [])
        self.assert_state(ledger.state(9), BOOK, [], 9)

    def test_each_deed(self):
        ledger = Ledger(BOOK)
        for day, text in enumerate([
            "buy a 0 ann tea 50 cake 20", "spend b 1 ann 9 a", "spend c 2 ann 1", "give d 3 ann bob 5",
            "lend e 4 ann cid 6 9", "change f 5 ann dan 10", "fix h a tea 60", "back g 7 a",
        ]):
            self.assert_taken(ledger, text, day)

    def test_deeds_told_on_their_day_and_late(self):
        ledger = Ledger(BOOK)
        for text, told in (
            ("buy a 5 ann tea 50", 5), ("buy b 3 ann tea 20", 5), ("buy c 0 bob tea 20", MOST),
            ("spend d 1 bob 20", MOST), (f"buy e {MOST} bob tea 1", MOST), ("buy f 0 ann tea 0", MOST),
        ):
            self.assert_taken(ledger, text, told)

    def test_two_ledgers_of_one_book_know_nothing_of_one_another(self):
        one = ledger_of("3 buy a 1 ann tea 5")
        other = Ledger(BOOK)
        self.assert_refused(TooFew, other, "spend b 2 ann 5", 3)
        self.assert_refused(NoDeed, other, "back b 2 a", 3)
        self.assert_taken(other, "buy a 1 ann tea 9", 2)
        self.assertEqual(one.state(9).rows["ann"], [(1, "a", "", 5)])
        self.assertEqual(other.state(9).rows["ann"], [(1, "a", "", 9)])

    def test_a_deed_may_be_told_again_behind_its_refusal(self):
        ledger = Ledger(BOOK)
        self.assert_refused(TooFew, ledger, "spend s 2 ann 5", 3)
        self.assert_taken(ledger, "buy a 1 ann tea 5", 3)
        self.assert_taken(ledger, "spend s 2 ann 5", 3)


class BadDeeds(LedgerTestCase):
    LEDGER = ("9 buy a 1 ann tea 50", "9 buy b 1 dan tea 50")

    def test_what_is_no_deed(self):
        ledger = ledger_of(*self.LEDGER)
        for deed in (
            ("", "r", 3), ("buy",), ("buy", "r", 3, "ann", ()), ("buy", "R", 3, "ann", (("tea", 5),)),
            ("buy", "r", -1, "ann", (("tea", 5),)), ("buy", "r", 3, "ann", (("tea", -5),)),
            ("spend", "r", 3, "ann", 0, ()), ("spend", "r", 3, "ann", 5, ("a", "a")), ("spend", "r", 3, "ann", 5),
            ("give", "r", 3, "ann", "ann", 5), ("give", "r", None, "ann", "bob", 5),
            ("lend", "r", 3, "ann", "bob", 5, 3), ("change", "r", 3, "ann", "ann", 5), ("change", "r", 3, "ann", "dan", 0),
            ("back", "a", 3, "a"), ("fix", "r", "r", (("tea", 5),)), ("fix", "r", "a", ()), ("take", "r", 3, "ann", 5),
        ):
            self.assert_refused(BadDeed, ledger, deed, 9)

    def test_a_purse_that_is_not_the_books(self):
        ledger = ledger_of(*self.LEDGER)
        for text in (
            "buy r 3 zoe tea 5", "spend r 3 zoe 5", "give r 3 zoe ann 5", "give r 3 ann zoe 5", "lend r 3 zoe ann 5 6",
            "lend r 3 ann zoe 5 6", "change r 3 zoe dan 5", "change r 3 ann zoe 5", "buy r 3 shop tea 5",
        ):
            self.assert_refused(BadDeed, ledger, text, 9)

    def test_a_giving_or_lending_to_another_house(self):
        ledger = ledger_of(*self.LEDGER)
        for text in ("give r 3 ann dan 5", "give r 3 dan ann 5", "lend r 3 ann eve 5 6", "lend r 3 dan bob 5 6"):
            self.assert_refused(BadDeed, ledger, text, 9)

    def test_a_giving_or_lending_within_each_house(self):
        ledger = ledger_of(*self.LEDGER)
        for text in ("give r 3 ann bob 5", "give s 3 dan eve 5", "lend t 3 ann cid 5 6", "lend u 3 dan eve 5 6"):
            self.assert_taken(ledger, text, 9)

    def test_a_change_to_the_same_house(self):
        ledger = ledger_of(*self.LEDGER)
        for text in ("change r 3 ann bob 5", "change r 3 dan eve 5"):
            self.assert_refused(BadDeed, ledger, text, 9)


class TwiceTold(LedgerTestCase):
    def test_a_ref_that_was_told(self):
        ledger = ledger_of(
            "9 buy a 1 ann tea 50", "9 spend b 2 ann 5", "9 give c 2 ann bob 5", "9 lend d 2 ann bob 5 6",
            "9 change e 2 ann dan 5", "9 fix f a tea 40", "9 back g 7 a", "9 buy h 1 ann tea 1",
        )
        for ref in "abcdefgh":
            for text in (
                f"buy {ref} 3 bob tea 5", f"spend {ref} 3 ann 1", f"give {ref} 3 ann bob 1", f"lend {ref} 3 ann bob 1 6",
                f"change {ref} 3 ann dan 1",
            ):
                self.assert_refused(Twice, ledger, text, 9)
        for ref in "abcdefg":
            self.assert_refused(Twice, ledger, f"fix {ref} h tea 5", 9)
            self.assert_refused(Twice, ledger, f"back {ref} 3 h", 9)

    def test_the_very_same_deed(self):
        self.assert_refused(Twice, ledger_of("9 buy a 1 ann tea 50"), "buy a 1 ann tea 50", 9)

    def test_a_purse_or_an_of_is_no_ref(self):
        ledger = ledger_of("9 buy a 1 ann tea 50", "9 spend b 2 ann 5 x y")
        for ref in ("ann", "tea", "shop", "x"):
            self.assert_taken(ledger, f"buy {ref} 3 bob tea 5", 9)

    def test_a_buy_that_was_taken_back(self):
        ledger = ledger_of("9 buy a 1 ann tea 50", "9 buy b 1 ann tea 50", "9 back r 3 a")
        for text in ("back s 3 a", "back s 2 a", "back s 9 a", "back q 3 a"):
            self.assert_refused(Twice, ledger, text, 9)
        self.assert_taken(ledger, "back s 3 b", 9)
        self.assert_refused(Twice, ledger, "back t 4 b", 9)

    def test_a_fix_does_not_take_back_and_is_not_hindered(self):
        ledger = ledger_of("9 buy a 1 ann tea 50", "9 fix f a tea 40", "9 fix g a tea 30", "9 back r 3 a")
        self.assert_taken(ledger, "fix h a tea 20", 9)
        self.assert_refused(Twice, ledger, "back s 4 a", 9)


class NoSuchBuy(LedgerTestCase):
    def test_a_back_or_fix_of_no_told_deed(self):
        ledger = ledger_of("9 buy a 1 ann tea 50")
        for name in ("b", "ann", "aa", "tea"):
            self.assert_refused(NoDeed, ledger, f"back r 3 {name}", 9)
            self.assert_refused(NoDeed, ledger, f"fix r {name} tea 5", 9)
        self.assert_refused(NoDeed, Ledger(BOOK), "back r 3 a", 9)
        self.assert_refused(NoDeed, Ledger(BOOK), "fix r a tea 5", 9)

    def test_a_back_or_fix_of_a_told_deed_that_is_no_buy(self):
        ledger = ledger_of(
            "9 buy a 1 ann tea 50", "9 spend b 2 ann 5", "9 give c 2 ann bob 5", "9 lend d 2 ann bob 5 6",
            "9 change e 2 ann dan 5", "9 fix f a tea 40", "9 back g 7 a",
        )
        for name in "bcdefg":
            self.assert_refused(NoDeed, ledger, f"back r 8 {name}", 9)
            self.assert_refused(NoDeed, ledger, f"fix r {name} tea 5", 9)

    def test_a_refused_buy_was_not_told(self):
        ledger = Ledger(BOOK)
        self.assert_refused(WrongDay, ledger, "buy a 5 ann tea 50", 4)
        self.assert_refused(NoDeed, ledger, "back r 3 a", 9)
        self.assert_refused(NoDeed, ledger, "fix r a tea 5", 9)


class WrongDays(LedgerTestCase):
    def test_told_ahead_of_the_only_telling(self):
        ledger = ledger_of("4 buy a 1 ann tea 50")
        self.assert_refused(WrongDay, ledger, "buy c 2 ann tea 5", 3)
        self.assert_refused(WrongDay, ledger, "fix c a tea 5", 3)

    def test_told_ahead_of_the_last_telling(self):
        ledger = ledger_of("4 buy a 1 ann tea 50", "7 buy b 1 ann tea 50")
        for told in (6, 5, 4, 3):
            self.assert_refused(WrongDay, ledger, "buy c 2 ann tea 5", told)
            self.assert_refused(WrongDay, ledger, "fix c a tea 5", told)
            self.assert_refused(WrongDay, ledger, "back c 2 a", told)
            self.assert_refused(WrongDay, ledger, "spend c 2 ann 5", told)

    def test_told_on_the_day_of_the_last_telling_or_later(self):
        ledger = ledger_of("4 buy a 1 ann tea 50", "7 buy b 1 ann tea 50")
        self.assert_taken(ledger, "buy c 2 ann tea 5", 7)
        self.assert_taken(ledger, "fix d a tea 5", 7)
        self.assert_taken(ledger, "buy e 2 ann tea 5", 8)
        self.assert_refused(WrongDay, ledger, "buy f 2 ann tea 5", 7)

    def test_a_refused_telling_does_not_count(self):
        ledger = ledger_of("4 buy a 1 ann tea 50")
        self.assert_refused(TooFew, ledger, "spend b 2 ann 51", 9)
        self.assert_taken(ledger, "buy b 2 ann tea 5", 5)

    def test_a_day_above_told(self):
        ledger = ledger_of("5 buy a 1 ann tea 50")
        for text in (
            "buy r 6 ann tea 5", "spend r 6 ann 5", "give r 6 ann bob 5", "lend r 6 ann bob 5 9", "change r 6 ann dan 5",
            "back r 6 a", "buy r 7 ann tea 5", f"buy r {MOST} ann tea 5",
        ):
            self.assert_refused(WrongDay, ledger, text, 5)
        self.assert_refused(WrongDay, Ledger(BOOK), "buy r 1 ann tea 5", 0)

    def test_a_day_that_is_told_on(self):
        ledger = ledger_of("5 buy a 1 ann tea 50")
        for text in (
            "buy r 5 ann tea 5", "spend s 5 ann 5", "give t 5 ann bob 5", "lend u 5 ann bob 5 9", "change v 5 ann dan 5",
            "back w 5 a",
        ):
            self.assert_taken(ledger, text, 5)

    def test_the_end_of_a_lending_may_be_above_told(self):
        self.assert_taken(ledger_of("5 buy a 1 ann tea 50"), f"lend l 5 ann bob 5 {MOST}", 5)

    def test_a_back_that_does_not_stand_behind_its_buy(self):
        ledger = ledger_of("9 buy m 5 ann tea 50", "9 fix z m tea 40")
        for text in ("back r 4 m", "back r 0 m", "back l 5 m", "back a 5 m", "back lz 5 m"):
            self.assert_refused(WrongDay, ledger, text, 9)

    def test_a_back_that_stands_just_behind_its_buy(self):
        for text in ("back n 5 m", "back ma 5 m", "back a 6 m", "back z 9 m"):
            self.assert_taken(ledger_of("9 buy m 5 ann tea 50", "9 fix zz m tea 40"), text, 9)


class NoRates(LedgerTestCase):
    def test_a_change_without_a_rate(self):
        ledger = ledger_of("9 buy a 1 ann tea 50", "9 buy b 1 dan tea 50", "9 buy c 1 fay tea 50")
        for text in (
            "change r 3 dan ann 5", "change r 3 eve ann 5", "change r 3 ann fay 5", "change r 3 fay ann 5",
            "change r 3 dan fay 5", "change r 3 fay dan 5",
        ):
            self.assert_refused(NoRate, ledger, text, 9)

    def test_a_change_with_a_rate(self):
        ledger = ledger_of("9 buy a 1 ann tea 50", "9 buy b 1 bob tea 50")
        self.assert_taken(ledger, "change r 3 ann dan 5", 9)
        self.assert_taken(ledger, "change s 3 bob eve 5", 9)


class TooFewPoints(LedgerTestCase):
    FORMS = ("spend r 3 ann {}", "give r 3 ann bob {}", "lend r 3 ann bob {} 6", "change r 3 ann dan {}")

    def assert_has(self, points, tellings, forms=FORMS, told=9, book=BOOK):
        """Each of these deeds may draw just so many points."""
        for form in forms:
            if points > 0:
                self.assert_taken(ledger_of(*tellings, book=book), form.format(points), told)
            self.assert_refused(TooFew, ledger_of(*tellings, book=book), form.format(points + 1), told)
            self.assert_refused(TooFew, ledger_of(*tellings, book=book), form.format(MOST), told)

    def test_as_many_as_there_are(self):
        self.assert_has(0, [])
        self.assert_has(0, ["9 buy a 1 bob tea 50"])
        self.assert_has(50, ["9 buy a 1 ann tea 50"])
        self.assert_has(58, ["9 buy a 1 ann tea 50", "9 buy b 2 ann tea 8", "9 buy c 2 bob tea 4"])

    def test_deeds_ahead_by_day_and_ref_count_alone(self):
        self.assert_has(50, ["9 buy q 3 ann tea 50"])
        self.assert_has(0, ["9 buy s 3 ann tea 50"])
        self.assert_has(0, ["9 buy ra 3 ann tea 50"])
        self.assert_has(0, ["9 buy a 4 ann tea 50"])
        self.assert_has(50, ["9 buy z 2 ann tea 50", "9 buy a 4 ann tea 9"])

    def test_spendings_behind_it_leave_its_points_alone(self):
        self.assert_has(50, ["9 buy a 1 ann tea 50", "9 spend b 4 ann 30", "9 give c 5 ann bob 20"])
        self.assert_has(20, ["9 buy a 1 ann tea 50", "9 spend b 3 ann 30"])
        self.assert_has(50, ["9 buy a 1 ann tea 50", "9 spend s 3 ann 30"])

    def test_first_does_not_bound_a_spending(self):
        self.assert_has(58, ["9 buy a 1 ann tea 50", "9 buy b 2 ann tea 8"], ("spend r 3 ann {} b", "spend r 3 ann {} x"))

    def test_a_spending_may_draw_what_is_lent_the_others_may_not(self):
        tellings = ["9 buy a 1 ann tea 5", "9 buy b 1 bob tea 8", "9 lend c 2 bob ann 8 7"]
        self.assert_has(13, tellings, self.FORMS[:1])
        self.assert_has(5, tellings, self.FORMS[1:])

    def test_the_morning_of_the_day_is_done(self):
        tellings = ["9 buy a 1 ann tea 5", "9 buy b 2 ann tea 7"]
        self.assert_has(12, tellings, book=book_of(age=3))
        self.assert_has(7, tellings, book=book_of(age=2))
        self.assert_has(0, tellings, book=book_of(age=1))
        self.assert_has(12, tellings, book=book_of(rest=2))
        self.assert_has(0, tellings, book=book_of(rest=1))

    def test_a_lending_that_ends_on_the_day(self):
        self.assert_has(5, ["9 buy a 1 ann tea 5", "9 lend b 1 ann bob 4 3"])
        self.assert_has(1, ["9 buy a 1 ann tea 5", "9 lend b 1 ann bob 4 4"])
        self.assert_has(0, ["9 buy a 1 bob tea 5", "9 lend b 1 bob ann 4 3"])

    def test_fixes_count_and_so_do_takings_back(self):
        self.assert_has(20, ["9 buy a 1 ann tea 50", "9 fix f a tea 20"])
        self.assert_has(30, ["9 buy a 1 ann tea 50", "9 fix f a tea 20", "9 fix e a tea 30"])
        self.assert_has(8, ["9 buy a 1 ann tea 50", "9 buy b 1 ann tea 8", "9 back c 2 a"])
        self.assert_has(58, ["9 buy a 1 ann tea 50", "9 buy b 1 ann tea 8", "9 back c 4 a"])

    def test_points_paid_on_debts_are_not_there(self):
        self.assert_has(30, ["9 buy a 2 ann tea 50", "9 buy b 1 ann tea 20", "9 spend c 1 ann 20", "9 fix f b tea 0"])

    def test_what_was_told_late_counts_at_once(self):
        ledger = ledger_of("5 buy a 5 ann tea 5")
        self.assert_refused(TooFew, ledger, "spend s 5 ann 9", 5)
        self.assert_taken(ledger, "buy b 1 ann tea 4", 6)
        self.assert_taken(ledger, "spend s 5 ann 9", 6)

    def test_a_change_may_draw_points_that_bring_nothing(self):
        self.assert_taken(ledger_of("9 buy a 1 ann tea 50"), "change r 3 ann dan 1", 9)


class WhereTwoAreDue(LedgerTestCase):
    """Of two refusals that are due the one that [16] tells first comes."""

    TOLD = ("9 buy m 5 ann tea 50", "9 buy o 5 ann tea 5", "9 back p 6 o", "9 buy q 5 dan tea 5")

    def assert_first(self, refusal, text, told):
        self.assert_refused(refusal, ledger_of(*self.TOLD), text, told)

    def test_bad_deed_ahead_of_twice(self):
        self.assert_first(BadDeed, "buy m 5 zoe tea 5", 9)
        self.assert_first(BadDeed, "give m 5 ann dan 5", 9)
        self.assert_first(BadDeed, "lend m 5 ann dan 5 6", 9)
        self.assert_first(BadDeed, "change m 5 ann bob 5", 9)
        self.assert_first(BadDeed, ("buy", "m", 5, "ann", ()), 9)

    def test_bad_deed_ahead_of_no_deed(self):
        self.assert_first(BadDeed, ("back", "r", -1, "x"), 9)
        self.assert_first(BadDeed, ("fix", "r", "x", ()), 9)

    def test_bad_deed_ahead_of_wrong_day(self):
        self.assert_first(BadDeed, "buy r 5 zoe tea 5", 8)
        self.assert_first(BadDeed, "buy r 10 zoe tea 5", 9)
        self.assert_first(BadDeed, "give r 10 ann dan 5", 9)
        self.assert_first(BadDeed, "change r 10 ann bob 5", 9)

    def test_bad_deed_ahead_of_no_rate(self):
        self.assert_first(BadDeed, "change r 6 dan eve 5", 9)
        self.assert_first(BadDeed, "change r 6 zoe fay 5", 9)

    def test_bad_deed_ahead_of_too_few(self):
        self.assert_first(BadDeed, "spend r 6 zoe 5", 9)
        self.assert_first(BadDeed, "give r 6 ann dan 51", 9)
        self.assert_first(BadDeed, "change r 6 bob ann 1", 9)

    def test_twice_ahead_of_no_deed(self):
        self.assert_first(Twice, "back m 6 x", 9)
        self.assert_first(Twice, "fix m x tea 5", 9)

    def test_twice_ahead_of_wrong_day(self):
        self.assert_first(Twice, "buy m 6 ann tea 5", 8)
        self.assert_first(Twice, "buy m 10 ann tea 5", 9)
        self.assert_first(Twice, "fix m q tea 5", 8)
        self.assert_first(Twice, "back m 4 q", 9)

    def test_twice_ahead_of_no_rate(self):
        self.assert_first(Twice, "change m 6 dan ann 5", 9)

    def test_twice_ahead_of_too_few(self):
        self.assert_first(Twice, "spend m 6 ann 51", 9)
        self.assert_first(Twice, "lend m 6 bob ann 1 9", 9)

    def test_no_deed_ahead_of_wrong_day(self):
        self.assert_first(NoDeed, "back r 6 x", 8)
        self.assert_first(NoDeed, "back r 10 x", 9)
        self.assert_first(NoDeed, "fix r x tea 5", 8)
        self.assert_first(NoDeed, "back r 10 p", 9)

    def test_twice_taken_back_ahead_of_wrong_day(self):
        self.assert_first(Twice, "back r 6 o", 8)
        self.assert_first(Twice, "back r 10 o", 9)
        self.assert_first(Twice, "back r 4 o", 9)

    def test_wrong_day_ahead_of_no_rate(self):
        self.assert_first(WrongDay, "change r 6 dan ann 5", 8)
        self.assert_first(WrongDay, "change r 10 ann fay 5", 9)

    def test_wrong_day_ahead_of_too_few(self):
        self.assert_first(WrongDay, "spend r 6 ann 51", 8)
        self.assert_first(WrongDay, "spend r 10 ann 51", 9)
        self.assert_first(WrongDay, "give r 6 bob ann 1", 8)
        self.assert_first(WrongDay, "lend r 10 bob ann 1 11", 9)
        self.assert_first(WrongDay, "change r 6 ann dan 51", 8)

    def test_no_rate_ahead_of_too_few(self):
        self.assert_first(NoRate, "change r 6 dan ann 6", 9)
        self.assert_first(NoRate, "change r 6 fay ann 1", 9)


class DoneOnFaith(LedgerTestCase):
    def test_a_taking_back_told_late(self):
        told = ("5 buy a 1 ann tea 9", "5 spend s 4 ann 9")
        self.assertEqual(ledger_of(*told).state(5).debts["ann"], [])
        ledger = ledger_of(*told, "6 back b 2 a")
        state = ledger.state(6)
        self.assertEqual(state.debts["ann"], [("s", "", 9)])
        self.assertEqual(state.ends, [("a", "taken", "ann", "b", 2, 9)])
        self.assertEqual(state.owed, [("s", "ann", "", 4, 9)])

    def test_a_fix_that_leaves_fewer(self):
        ledger = ledger_of("5 buy a 1 ann tea 9", "5 give g 4 ann bob 9", "5 spend s 4 bob 9", "6 fix f a tea 4")
        state = ledger.state(6)
        self.assertEqual(state.rows["ann"], [])
        self.assertEqual(state.ends, [("a", "spent", "bob", "s", 4, 4)])
        self.assertEqual(state.debts["bob"], [("s", "", 5)])

    def test_a_spending_told_late(self):
        ledger = ledger_of("5 buy a 1 ann tea 9", "5 change c 4 ann dan 8", "6 spend s 2 ann 6")
        state = ledger.state(6)
        self.assertEqual(state.rows["dan"], [(4, "c", "", 1)])
        self.assertEqual(state.odds, {("ann", "dan"): 1})
        self.assertEqual(state.debts["ann"], [])

    def test_a_lending_that_a_late_deed_leaves_with_fewer(self):
        told = ["5 buy a 1 ann tea 9", "5 lend l 4 ann bob 9 8", "5 spend s 5 bob 9", "6 give g 2 ann cid 3"]
        state = ledger_of(*told).state(8)
        self.assertEqual(state.rows, {
            "ann": [], "bob": [], "cid": [(1, "a", "", 3)], "dan": [], "eve": [], "fay": [],
        })
        self.assertEqual(state.debts["bob"], [("s", "", 3), ("l", "ann", 6)])

    def test_a_late_buy_changes_what_lapsed(self):
        book = book_of(rest=4)
        told = ["9 buy a 1 ann tea 9"]
        self.assertEqual(ledger_of(*told, book=book).state(5).rows["ann"], [])
        self.assertEqual(ledger_of(*told, "9 buy b 4 ann tea 1", book=book).state(5).rows["ann"],
                         [(1, "a", "", 9), (4, "b", "", 1)])

    def test_a_late_buy_ahead_changes_what_the_cap_leaves(self):
        ledger = ledger_of("9 buy m 1 ann tea 9", "9 buy b 1 ann tea 6", book=book_of(cap=10))
        self.assertEqual(ledger.state(1).earned, {"b": ("buy", "ann", 1, 6), "m": ("buy", "ann", 1, 4)})

    def test_such_a_deed_counts_for_those_behind_it(self):
        ledger = ledger_of("5 buy a 1 ann tea 9", "5 give g 4 ann bob 9", "6 spend s 2 ann 6")
        self.assert_refused(TooFew, ledger, "spend t 5 bob 4", 6)
        self.assert_taken(ledger, "spend t 5 bob 3", 6)


class Tellings(LedgerTestCase):
    TOLD = ("3 buy b 1 ann tea 5", "3 buy a 2 bob tea 6", "7 spend c 1 ann 2", "9 fix d b tea 4", "9 back e 8 a")

    def test_pairs_in_the_order_of_the_telling(self):
        self.assertEqual(ledger_of(*self.TOLD).tellings(), [
            (("buy", "b", 1, "ann", (("tea", 5),)), 3), (("buy", "a", 2, "bob", (("tea", 6),)), 3),
            (("spend", "c", 1, "ann", 2, ()), 7), (("fix", "d", "b", (("tea", 4),)), 9), (("back", "e", 8, "a"), 9),
        ])

    def test_the_list_is_the_askers_own(self):
        ledger = ledger_of(*self.TOLD)
        told = ledger.tellings()
        self.assertIsNot(ledger.tellings(), told)
        kept = list(told)
        told.reverse()
        told.pop()
        self.assertEqual(ledger.tellings(), kept)
        self.assertEqual(len(ledger.settled(5)), 4)
        earlier = ledger.tellings()
        ledger.tell(read_deed("buy z 9 ann tea 1"), 9)
        self.assertEqual(earlier, kept)
        self.assertEqual(ledger.tellings(), kept + [(("buy", "z", 9, "ann", (("tea", 1),)), 9)])

    def test_told_again_to_another_ledger(self):
        ledger = ledger_of(*self.TOLD)
        other = Ledger(ledger.book)
        for deed, told in ledger.tellings():
            other.tell(deed, told)
        self.assertEqual(other.tellings(), ledger.tellings())
        self.assertEqual(fields_of(other.state(20)), fields_of(ledger.state(20)))


class Settled(LedgerTestCase):
    TOLD = (
        "8 buy b 1 ann tea 50 cake 7", "8 fix f b tea 40", "8 buy a 2 bob tea 6", "8 spend c 1 ann 2 b",
        "9 fix g b nut 30 tea 1", "9 back e 8 b", "9 fix h a tea 9", "9 fix i b tea 20", "12 fix j b tea 10",
    )

    def test_with_each_number_of_tellings(self):
        ledger = ledger_of(*self.TOLD)
        spending, back = "spend c 1 ann 2 b", "back e 8 b"
        for many, texts in enumerate([
            [],
            ["buy b 1 ann tea 50 cake 7"],
            ["buy b 1 ann tea 40"],
            ["buy b 1 ann tea 40", "buy a 2 bob tea 6"],
            ["buy b 1 ann tea 40", "buy a 2 bob tea 6", spending],
            ["buy b 1 ann nut 30 tea 1", "buy a 2 bob tea 6", spending],
            ["buy b 1 ann nut 30 tea 1", "buy a 2 bob tea 6", spending, back],
            ["buy b 1 ann nut 30 tea 1", "buy a 2 bob tea 9", spending, back],
            ["buy b 1 ann tea 20", "buy a 2 bob tea 9", spending, back],
            ["buy b 1 ann tea 10", "buy a 2 bob tea 9", spending, back],
        ]):
            with self.subTest(many=many):
                self.assertEqual(ledger.settled(many), [read_deed(text) for text in texts])

    def test_they_are_deeds(self):
        for deed in ledger_of(*self.TOLD).settled(9):
            self.assertIs(type(deed), tuple)

    def test_without_fixes_they_are_the_deeds_as_told(self):
        ledger = ledger_of("3 buy b 1 ann tea 5", "3 buy a 2 bob tea 6", "7 spend c 1 ann 2")
        self.assertEqual(ledger.settled(3), [deed for deed, told in ledger.tellings()])
        self.assertEqual(ledger.settled(2), [deed for deed, told in ledger.tellings()][:2])

    def test_the_list_is_the_askers_own(self):
        ledger = ledger_of(*self.TOLD)
        settled = ledger.settled(9)
        self.assertIsNot(ledger.settled(9), settled)
        kept = list(settled)
        settled.clear()
        self.assertEqual(ledger.settled(9), kept)
        earlier = ledger.settled(9)
        ledger.tell(read_deed("fix z a tea 1"), 12)
        self.assertEqual(earlier, kept)
        self.assertEqual(ledger.settled(9), kept)

    def test_the_tellings_stay_as_told(self):
        ledger = ledger_of(*self.TOLD)
        ledger.settled(9)
        self.assertEqual(ledger.tellings()[0], (read_deed("buy b 1 ann tea 50 cake 7"), 8))


class States(LedgerTestCase):
    TOLD = (
        "4 buy b 4 ann tea 50", "4 buy a 2 bob tea 6", "5 spend c 4 ann 20", "6 lend d 6 ann cid 9 9",
        "8 fix e b tea 40", "8 change f 7 ann dan 5", "9 back g 8 a",
    )
    SETTLED = (
        "buy b 4 ann tea 40", "buy a 2 bob tea 6", "spend c 4 ann 20", "lend d 6 ann cid 9 9", "change f 7 ann dan 5",
        "back g 8 a",
    )

    def test_of_days_ahead_between_and_behind(self):
        ledger = ledger_of(*self.TOLD)
        for day in (*range(12), 40, MOST):
            with self.subTest(day=day):
                self.assert_state(ledger.state(day), BOOK, self.SETTLED, day)

    def test_settled_deeds_may_be_walked(self):
        ledger = ledger_of(*self.TOLD)
        for day in (3, 8, 20):
            self.assertEqual(fields_of(walked(ledger.book, ledger.settled(7), day)), fields_of(ledger.state(day)))

    def test_some_by_hand(self):
        ledger = ledger_of(*self.TOLD)
        self.assertEqual(ledger.state(1).rows["bob"], [])
        self.assertEqual(ledger.state(2).rows["bob"], [(2, "a", "", 6)])
        self.assertEqual(ledger.state(3).rows["ann"], [])
        self.assertEqual(ledger.state(5).rows["ann"], [(4, "b", "", 20)])
        self.assertEqual(ledger.state(7).rows["ann"], [(4, "b", "", 6)])
        self.assertEqual(ledger.state(7).rows["cid"], [(4, "b", "d", 9)])
        self.assertEqual(ledger.state(7).rows["dan"], [(7, "f", "", 2)])
        self.assertEqual(ledger.state(8).rows["bob"], [])
        self.assertEqual(ledger.state(9).rows["ann"], [(4, "b", "", 15)])
        self.assertEqual(ledger.state(40).day, 40)

    def test_the_order_of_the_telling_does_not_count(self):
        book = book_of(age=5, cap=60)
        texts = ["buy b 4 ann tea 50", "buy a 2 bob tea 6", "buy c 4 ann tea 20", "buy d 1 ann tea 1"]
        expected = fields_of(ledger_of(*["9 " + text for text in texts], book=book).state(8))
        self.assertEqual(fields_of(ledger_of(*["9 " + text for text in texts[::-1]], book=book).state(8)), expected)

    def test_a_fix_of_a_buy_that_was_taken_back(self):
        ledger = ledger_of("9 buy a 1 ann tea 9", "9 spend s 2 ann 4", "9 back b 3 a", "9 fix f a tea 6")
        state = ledger.state(9)
        self.assertEqual(state.earned, {"a": ("buy", "ann", 1, 6)})
        self.assertEqual(state.ends, [("a", "spent", "ann", "s", 2, 4), ("a", "taken", "ann", "b", 3, 2)])
        self.assertEqual(state.debts["ann"], [("b", "", 4)])
        self.assertEqual(state.backs, {"a": 3})

    def test_a_state_is_the_askers_own(self):
        ledger = ledger_of(*self.TOLD)
        state = ledger.state(9)
        kept = copy.deepcopy(fields_of(state))
        for told in [*state.rows.values(), *state.debts.values(), state.ends, state.owed]:
            told.insert(0, (1, "z", "", 99))
        for told in (state.rows, state.debts, state.earned, state.odds, state.backs):
            told["zed"] = []
        self.assertEqual(fields_of(ledger.state(9)), kept)
        self.assert_refused(TooFew, ledger, "spend z 9 ann 16", 9)

    def test_a_state_stays_behind_further_tellings(self):
        ledger = ledger_of(*self.TOLD)
        state = ledger.state(9)
        kept = copy.deepcopy(fields_of(state))
        ledger.tell(read_deed("buy h 1 bob tea 99"), 9)
        ledger.tell(read_deed("spend i 5 ann 1"), 9)
        self.assertEqual(fields_of(state), kept)
        self.assertNotEqual(fields_of(ledger.state(9)), kept)


class StatesKnown(LedgerTestCase):
    TOLD = (
        "4 buy b 4 ann tea 50", "4 buy a 2 bob tea 6", "6 fix e b tea 40", "6 spend c 5 ann 7", "9 back g 3 a",
        "9 fix h b tea 30",
    )
    # What the deeds are that were told up to each day that is over.
    KNOWN = {
        0: (), 3: (), 4: ("buy b 4 ann tea 50", "buy a 2 bob tea 6"), 5: ("buy b 4 ann tea 50", "buy a 2 bob tea 6"),
        6: ("buy b 4 ann tea 40", "buy a 2 bob tea 6", "spend c 5 ann 7"),
        7: ("buy b 4 ann tea 40", "buy a 2 bob tea 6", "spend c 5 ann 7"),
        8: ("buy b 4 ann tea 40", "buy a 2 bob tea 6", "spend c 5 ann 7"),
    }

    def assert_not_over(self, ledger, day, known):
        with self.subTest(day=day, known=known):
            tellings = ledger.tellings()
            with self.assertRaises(PurseError) as caught:
                ledger.state_known(day, known)
            self.assertIs(type(caught.exception), NotOver)
            self.assertEqual(ledger.tellings(), tellings)

    def test_of_days_that_are_over(self):
        ledger = ledger_of(*self.TOLD)
        for known, texts in self.KNOWN.items():
            for day in (0, 2, 4, 5, 8, 20, MOST):
                with self.subTest(day=day, known=known):
                    self.assert_state(ledger.state_known(day, known), BOOK, texts, day)

    def test_some_by_hand(self):
        ledger = ledger_of(*self.TOLD)
        self.assertEqual(ledger.state_known(9, 3).rows["ann"], [])
        self.assertEqual(ledger.state_known(9, 4).rows["ann"], [(4, "b", "", 50)])
        self.assertEqual(ledger.state_known(9, 5).rows["ann"], [(4, "b", "", 50)])
        self.assertEqual(ledger.state_known(9, 6).rows["ann"], [(4, "b", "", 33)])
        self.assertEqual(ledger.state_known(4, 6).rows["ann"], [(4, "b", "", 40)])
        self.assertEqual(ledger.state_known(9, 8).rows["bob"], [(2, "a", "", 6)])
        self.assertEqual(ledger.state(9).rows["ann"], [(4, "b", "", 23)])
        self.assertEqual(ledger.state(9).rows["bob"], [])
        self.assertEqual(ledger.state_known(9, 8).day, 9)

    def test_not_over(self):
        ledger = ledger_of(*self.TOLD)
        for known in (9, 10, MOST):
            for day in (0, 8, 9, 30):
                self.assert_not_over(ledger, day, known)

    def test_nothing_was_told(self):
        for known in (0, 1, MOST):
            self.assert_not_over(Ledger(BOOK), 0, known)

    def test_nothing_but_refused_deeds_was_told(self):
        ledger = Ledger(BOOK)
        self.assert_refused(TooFew, ledger, "spend s 2 ann 5", 9)
        self.assert_not_over(ledger, 3, 4)

    def test_a_day_is_over_when_something_is_told_on_a_later_one(self):
        ledger = ledger_of("4 buy b 4 ann tea 50")
        self.assert_not_over(ledger, 9, 4)
        self.assert_state(ledger.state_known(9, 3), BOOK, [], 9)
        ledger.tell(read_deed("buy c 1 ann tea 2"), 5)
        self.assert_not_over(ledger, 9, 5)
        self.assert_state(ledger.state_known(9, 4), BOOK, ["buy b 4 ann tea 50"], 9)

    def test_what_it_tells_never_changes(self):
        ledger = Ledger(BOOK)
        told = {}
        more = ("9 buy i 1 ann tea 99", "12 spend j 4 ann 60", "12 fix k a tea 1", "15 back l 14 b")
        for telling in self.TOLD + more:
            day, text = telling.split(" ", 1)
            ledger.tell(read_deed(text), int(day))
            for known in range(int(day)):
                for asked in (3, 5, 20):
                    fields = copy.deepcopy(fields_of(ledger.state_known(asked, known)))
                    self.assertEqual(told.setdefault((asked, known), fields), fields)

    def test_changes_of_what_was_told_change_nothing(self):
        ledger = ledger_of(*self.TOLD)
        state = ledger.state_known(9, 6)
        kept = copy.deepcopy(fields_of(state))
        for told in [*state.rows.values(), *state.debts.values(), state.ends, state.owed]:
            told.insert(0, (1, "z", "", 99))
        for told in (state.rows, state.debts, state.earned, state.odds, state.backs):
            told.clear()
        ledger.tellings().clear()
        ledger.settled(6).clear()
        self.assertEqual(fields_of(ledger.state_known(9, 6)), kept)

    def test_a_state_that_was_told_stays(self):
        ledger = ledger_of(*self.TOLD)
        state = ledger.state_known(9, 6)
        kept = copy.deepcopy(fields_of(state))
        ledger.tell(read_deed("buy z 1 ann tea 99"), 30)
        self.assertEqual(fields_of(state), kept)
        self.assertEqual(fields_of(ledger.state_known(9, 6)), kept)


if __name__ == "__main__":
    unittest.main()
