"""[20] and [21], with [1]: ranks, when they fall, and when points lapse.

Deeds stand here by their texts [7]; a buy brings as many points as it has money.
"""

import copy
import unittest

from pointpurse.books import Book
from pointpurse.deedtext import read_deed
from pointpurse.houses import House
from pointpurse.ranks import counted, next_fall, next_lapse, plain_rank, rank, title_of
from pointpurse.walk import walked

MOST = 999999999999
FIELDS = ("day", "rows", "debts", "earned", "ends", "owed", "odds", "backs")
RANKS = ((10, "tin"), (20, "gold"), (40, "gold"))


def book_of(span=5, grace=0, ranks=RANKS, age=None, rest=None, cap=None):
    """shop has these fields, mill has no ranks and its points never lapse."""
    shop = House("shop", (1, 1), [], [], [], cap, age, rest, ranks, span, grace)
    mill = House("mill", (1, 1), [], [], [], None, None, None, [], 3, 1)
    return Book(
        [shop, mill], [("ann", "shop"), ("bob", "shop"), ("cid", "shop"), ("dan", "mill")],
        [("shop", "mill", 1, 1), ("mill", "shop", 1, 1)],
    )


def state_of(book, texts, day):
    return walked(book, [read_deed(text) for text in texts], day)


def everything_of(state):
    """All that a State holds, its fields beyond [13], too."""
    return copy.deepcopy(vars(state))


class RankTestCase(unittest.TestCase):
    maxDiff = None

    def assert_by_days(self, asked, state, book, expected, purse="ann"):
        """For each day of the dict the number is this; the state stays as it was."""
        kept = everything_of(state)
        self.assertEqual({day: asked(state, book, purse, day) for day in expected}, expected)
        self.assertEqual(everything_of(state), kept)


class Counted(RankTestCase):
    TEXTS = ("buy a 3 ann tea 10", "buy b 5 ann tea 20", "buy c 7 ann tea 40", "buy d 5 bob tea 100")
    ON_DAYS = {
        0: 0, 2: 0, 3: 10, 4: 10, 5: 30, 6: 30, 7: 70, 8: 60, 9: 60, 10: 40, 11: 40, 12: 0, 13: 0, MOST: 0
    }

    def test_on_days_before_on_and_behind_the_states(self):
        for day in (7, 8, 12, MOST):
            with self.subTest(day=day):
                self.assert_by_days(counted, state_of(book_of(), self.TEXTS, day), book_of(), self.ON_DAYS)

    def test_buys_that_the_state_has_alone(self):
        state = state_of(book_of(), self.TEXTS, 6)
        self.assert_by_days(counted, state, book_of(), {2: 0, 3: 10, 5: 30, 7: 30, 8: 20, 9: 20, 10: 0})
        self.assert_by_days(counted, state_of(book_of(), self.TEXTS, 2), book_of(), {0: 0, 3: 0, 7: 0})

    def test_the_first_and_the_last_day_of_the_span(self):
        for span in (1, 2, 9, MOST):
            state = state_of(book_of(span), ["buy a 4 ann tea 10"], 4)
            with self.subTest(span=span):
                self.assert_by_days(counted, state, book_of(span), {3: 0, 4: 10, 3 + span: 10, 4 + span: 0})

    def test_each_purse_by_its_own_buys(self):
        state = state_of(book_of(), self.TEXTS + ("buy e 6 dan tea 7",), 7)
        self.assert_by_days(counted, state, book_of(), {4: 0, 5: 100, 9: 100, 10: 0}, "bob")
        self.assert_by_days(counted, state, book_of(), {4: 0, 5: 0, 7: 0}, "cid")
        # The span of dan's house is 3.
        self.assert_by_days(counted, state, book_of(), {5: 0, 6: 7, 8: 7, 9: 0}, "dan")

    def test_several_buys_on_one_day(self):
        state = state_of(book_of(), ["buy a 3 ann tea 10", "buy b 3 ann tea 1", "buy c 3 ann tea 0"], 3)
        self.assert_by_days(counted, state, book_of(), {2: 0, 3: 11, 7: 11, 8: 0})

    def test_a_buy_taken_back(self):
        texts = ["buy a 3 ann tea 10", "buy b 3 ann tea 1", "back r 6 a"]
        state = state_of(book_of(), texts, 6)
        self.assert_by_days(counted, state, book_of(), {2: 0, 3: 11, 5: 11, 6: 1, 7: 1, 8: 0})
        # The day ahead the state does not know of it.
        self.assert_by_days(counted, state_of(book_of(), texts, 5), book_of(), {5: 11, 6: 11, 7: 11, 8: 0})

    def test_a_buy_taken_back_on_its_own_day_or_behind_its_span(self):
        state = state_of(book_of(), ["buy a 3 ann tea 10", "back r 3 a"], 4)
        self.assert_by_days(counted, state, book_of(), {2: 0, 3: 0, 4: 0})
        state = state_of(book_of(), ["buy a 3 ann tea 10", "back r 9 a"], 9)
        self.assert_by_days(counted, state, book_of(), {2: 0, 3: 10, 7: 10, 8: 0, 9: 0})

    def test_what_becomes_of_the_points_does_not_count(self):
        state = state_of(
            book_of(age=2), ["spend s 1 ann 2", "buy a 3 ann tea 10", "spend t 3 ann 3", "give u 4 ann bob 1"], 6
        )
        self.assert_by_days(counted, state, book_of(age=2), {2: 0, 3: 10, 7: 10, 8: 0})
        self.assert_by_days(counted, state, book_of(age=2), {4: 0, 7: 0}, "bob")

    def test_changes_do_not_count(self):
        state = state_of(book_of(), ["buy a 3 ann tea 10", "buy b 3 dan tea 9", "change c 4 dan ann 8"], 4)
        self.assert_by_days(counted, state, book_of(), {3: 10, 4: 10, 7: 10, 8: 0})
        self.assert_by_days(counted, state, book_of(), {3: 9, 4: 9, 5: 9, 6: 0}, "dan")

    def test_what_the_cap_left_out_does_not_count(self):
        book = book_of(cap=15)
        state = state_of(book, ["buy a 3 ann tea 10", "buy b 3 ann tea 10"], 3)
        self.assert_by_days(counted, state, book, {3: 15, 7: 15})


class PlainRank(RankTestCase):
    def test_at_each_least_and_beside_it(self):
        for points, expected in (
            (0, 0), (1, 0), (9, 0), (10, 1), (11, 1), (19, 1), (20, 2), (21, 2), (39, 2), (40, 3), (41, 3), (MOST, 3)
        ):
            state = state_of(book_of(), [f"buy a 3 ann tea {points}"], 3)
            with self.subTest(points=points):
                self.assert_by_days(plain_rank, state, book_of(), {2: 0, 3: expected, 7: expected, 8: 0})

    def test_a_least_of_one(self):
        book = book_of(ranks=[(1, "tin")])
        self.assert_by_days(plain_rank, state_of(book, ["buy a 3 ann tea 1"], 3), book, {2: 0, 3: 1})
        self.assert_by_days(plain_rank, state_of(book, ["buy a 3 ann tea 0"], 3), book, {3: 0})

    def test_without_ranks(self):
        state = state_of(book_of(), ["buy a 3 dan tea 500"], 3)
        self.assert_by_days(plain_rank, state, book_of(), {0: 0, 3: 0, 4: 0}, "dan")

    def test_it_is_without_grace(self):
        book = book_of(grace=4)
        state = state_of(book, ["buy a 3 ann tea 10", "buy b 5 ann tea 10"], 5)
        self.assert_by_days(plain_rank, state, book, {2: 0, 3: 1, 4: 1, 5: 2, 7: 2, 8: 1, 9: 1, 10: 0})


class Rank(RankTestCase):
    TEXTS = ("buy a 3 ann tea 10", "buy b 5 ann tea 10", "buy c 5 bob tea 99")

    def test_without_grace(self):
        state = state_of(book_of(), self.TEXTS, 5)
        self.assert_by_days(rank, state, book_of(), {0: 0, 2: 0, 3: 1, 4: 1, 5: 2, 7: 2, 8: 1, 9: 1, 10: 0, MOST: 0})

    def test_a_grace_of_one_day(self):
        book = book_of(grace=1)
        state = state_of(book, self.TEXTS, 5)
        self.assert_by_days(rank, state, book, {2: 0, 3: 1, 4: 1, 5: 2, 7: 2, 8: 2, 9: 1, 10: 1, 11: 0})

    def test_a_grace_of_more(self):
        book = book_of(grace=3)
        state = state_of(book, self.TEXTS, 5)
        self.assert_by_days(rank, state, book, {2: 0, 3: 1, 4: 1, 5: 2, 10: 2, 11: 1, 12: 1, 13: 0})

    def test_near_day_0(self):
        for grace in (0, 1, 3, MOST):
            book = book_of(span=1, grace=grace)
            state = state_of(book, ["buy a 0 ann tea 10"], 0)
            with self.subTest(grace=grace):
                self.assert_by_days(rank, state, book, {0: 1, grace: 1, grace + 1: 0})
                self.assert_by_days(rank, state_of(book, [], 0), book, {0: 0, 1: 0, grace: 0})

    def test_a_buy_within_the_days_of_the_grace(self):
        # The count is low on the first and on the last of these days, and high between.
        book = book_of(span=1, grace=4)
        state = state_of(book, ["buy a 3 ann tea 40", "buy b 4 ann tea 10"], 6)
        self.assert_by_days(rank, state, book, {2: 0, 3: 3, 5: 3, 7: 3, 8: 1, 9: 0})

    def test_a_buy_taken_back_holds_through_the_grace(self):
        texts = ["buy a 3 ann tea 10", "back r 5 a"]
        for grace, expected in ((0, {3: 1, 4: 1, 5: 0}), (1, {4: 1, 5: 1, 6: 0}), (3, {4: 1, 7: 1, 8: 0})):
            book = book_of(grace=grace)
            with self.subTest(grace=grace):
                self.assert_by_days(rank, state_of(book, texts, 6), book, expected)

    def test_a_buy_taken_back_on_its_own_day_never_counts(self):
        book = book_of(grace=3)
        state = state_of(book, ["buy a 3 ann tea 10", "back r 3 a"], 6)
        self.assert_by_days(rank, state, book, {2: 0, 3: 0, 4: 0, 6: 0})

    def test_days_ahead_of_the_states(self):
        book = book_of(grace=1)
        state = state_of(book, self.TEXTS, 40)
        self.assert_by_days(rank, state, book, {2: 0, 3: 1, 5: 2, 8: 2, 9: 1, 11: 0, 40: 0})

    def test_far_days(self):
        book = book_of(span=MOST, grace=MOST)
        state = state_of(book, [f"buy a {MOST} ann tea 10"], MOST)
        self.assert_by_days(rank, state, book, {MOST - 1: 0, MOST: 1, 3 * MOST - 1: 1, 3 * MOST: 0})

    def test_without_ranks(self):
        state = state_of(book_of(), ["buy a 3 dan tea 500"], 3)
        self.assert_by_days(rank, state, book_of(), {0: 0, 3: 0, 4: 0}, "dan")


class TitleOf(unittest.TestCase):
    def test_each_rank_and_none(self):
        titles = [title_of(book_of(), "bob", number) for number in range(4)]
        self.assertEqual(titles, ["", "tin", "gold", "gold"])

    def test_by_the_house_of_the_purse(self):
        shop = House("shop", (1, 1), [], [], [], None, None, None, [(3, "tin")], 5, 0)
        mill = House("mill", (1, 1), [], [], [], None, None, None, [(1, "oak"), (2, "elm")], 5, 0)
        book = Book([shop, mill], [("ann", "shop"), ("dan", "mill")], [])
        self.assertEqual([title_of(book, "ann", 1), title_of(book, "dan", 1), title_of(book, "dan", 2)], ["tin", "oak", "elm"])
        self.assertEqual([title_of(book, "ann", 0), title_of(book, "dan", 0)], ["", ""])

    def test_without_ranks(self):
        self.assertEqual(title_of(book_of(), "dan", 0), "")


class NextFall(RankTestCase):
    def assert_falls(self, book, texts, expected, purse="ann"):
        """For each day of the dict, the state of that day has this next fall, and stays as it was."""
        for day, fall in expected.items():
            state = state_of(book, texts, day)
            kept = everything_of(state)
            with self.subTest(day=day):
                self.assertEqual(next_fall(state, book, purse), fall)
                self.assertEqual(everything_of(state), kept)

    def test_none_for_no_rank(self):
        self.assert_falls(book_of(), [], {0: None, 9: None})
        self.assert_falls(book_of(), ["buy a 3 ann tea 9"], {2: None, 3: None, 9: None})
        self.assert_falls(book_of(), ["buy a 3 ann tea 99"], {3: None}, "bob")
        self.assert_falls(book_of(), ["buy a 3 dan tea 99"], {3: None}, "dan")

    def test_a_span_that_runs_out(self):
        self.assert_falls(book_of(), ["buy a 3 ann tea 10"], {2: None, 3: 8, 4: 8, 7: 8, 8: None, 9: None})
        self.assert_falls(book_of(span=1), ["buy a 0 ann tea 10"], {0: 1, 1: None})

    def test_with_grace(self):
        for grace in (1, 2, 7):
            with self.subTest(grace=grace):
                last = 7 + grace
                self.assert_falls(
                    book_of(grace=grace), ["buy a 3 ann tea 10"], {2: None, 3: last + 1, 8: last + 1, last: last + 1,
                                                                 last + 1: None}
                )

    def test_several_buys_that_run_out_one_behind_the_other(self):
        texts = ["buy a 1 ann tea 10", "buy b 2 ann tea 10", "buy c 4 ann tea 20"]
        self.assert_falls(book_of(), texts, {1: 6, 2: 6, 3: 6, 4: 6, 5: 6, 6: 9, 7: 9, 8: 9, 9: None})
        self.assert_falls(
            book_of(grace=2), texts, {1: 8, 2: 8, 3: 8, 4: 8, 7: 8, 8: 11, 9: 11, 10: 11, 11: None}
        )

    def test_a_buy_that_runs_out_without_the_rank_falling(self):
        texts = ["buy a 1 ann tea 5", "buy b 2 ann tea 10", "buy c 3 ann tea 12"]
        # 27 on day 3, 22 from day 6, 12 from day 7, none from day 8.
        self.assert_falls(book_of(), texts, {3: 7, 6: 7, 7: 8, 8: None})

    def test_a_rank_that_the_grace_alone_holds(self):
        book = book_of(span=2, grace=4)
        texts = ["buy a 1 ann tea 40", "buy b 6 ann tea 10"]
        # The count is 40 on days 1 and 2, and 10 on days 6 and 7.
        self.assert_falls(book, texts, {1: 7, 2: 7, 3: 7, 6: 7, 7: 12, 11: 12, 12: None})

    def test_a_buy_taken_back(self):
        texts = ["buy a 1 ann tea 10", "buy b 2 ann tea 10", "back r 4 a"]
        self.assert_falls(book_of(), texts, {2: 6, 3: 6, 4: 7, 6: 7, 7: None})
        self.assert_falls(book_of(grace=1), texts, {2: 7, 3: 7, 4: 5, 5: 8, 7: 8, 8: None})

    def test_all_taken_back(self):
        texts = ["buy a 1 ann tea 10", "back r 2 a"]
        self.assert_falls(book_of(), texts, {1: 6, 2: None})
        self.assert_falls(book_of(grace=3), texts, {1: 9, 2: 5, 4: 5, 5: None})
        self.assert_falls(book_of(grace=3), ["buy a 1 ann tea 10", "back r 1 a"], {1: None, 2: None})

    def test_later_deeds_do_not_count(self):
        texts = ["buy a 1 ann tea 10", "buy b 4 ann tea 10", "back r 5 b"]
        self.assert_falls(book_of(), texts, {3: 6, 4: 6, 5: 6})

    def test_far_days_in_short_time(self):
        self.assert_falls(book_of(span=MOST), ["buy a 3 ann tea 10"], {3: 3 + MOST, MOST: 3 + MOST})
        self.assert_falls(book_of(grace=MOST), ["buy a 3 ann tea 10"], {3: 8 + MOST, MOST: 8 + MOST})
        self.assert_falls(book_of(span=MOST, grace=MOST), [f"buy a {MOST} ann tea 10"], {MOST: 3 * MOST})
        self.assert_falls(
            book_of(span=MOST, grace=MOST), ["buy a 3 ann tea 10", f"buy b {MOST} ann tea 10", f"back r {MOST} a"],
            {3: 3 + 2 * MOST, MOST: 3 * MOST},
        )


class NextLapse(RankTestCase):
    def assert_lapses(self, book, texts, expected, purse="ann"):
        """For each day of the dict, the state of that day has this next lapse, and stays as it was."""
        for day, lapse in expected.items():
            state = state_of(book, texts, day)
            kept = everything_of(state)
            with self.subTest(purse=purse, day=day):
                told = next_lapse(state, book, purse)
                self.assertEqual(told, lapse)
                self.assertTrue(told is None or type(told) is tuple)
                self.assertEqual(everything_of(state), kept)

    def test_none(self):
        self.assert_lapses(book_of(), ["buy a 3 ann tea 10"], {0: None, 3: None, MOST: None})
        self.assert_lapses(book_of(age=5, rest=3), [], {0: None, 9: None})
        self.assert_lapses(book_of(age=5), ["buy a 3 ann tea 10", "spend s 3 ann 10"], {2: None, 3: None, 9: None})
        self.assert_lapses(book_of(age=5), ["buy a 3 ann tea 10"], {3: None}, "bob")
        self.assert_lapses(book_of(age=5), ["buy a 3 dan tea 10"], {3: None}, "dan")
        self.assert_lapses(book_of(age=5), ["buy a 3 ann tea 0"], {3: None})

    def test_by_age(self):
        texts = ["buy a 3 ann tea 10", "buy b 5 ann tea 7"]
        self.assert_lapses(
            book_of(age=5), texts, {2: None, 3: (8, 10), 5: (8, 10), 7: (8, 10), 8: (10, 7), 9: (10, 7), 10: None}
        )
        self.assert_lapses(book_of(age=1), texts, {3: (4, 10), 4: None, 5: (6, 7), 6: None})

    def test_by_rest(self):
        texts = ["buy a 3 ann tea 10", "buy b 5 ann tea 7", "spend s 6 ann 1", "give g 6 ann bob 4"]
        self.assert_lapses(book_of(rest=4), texts, {3: (7, 10), 5: (9, 17), 6: (10, 12), 9: (10, 12), 10: None})
        self.assert_lapses(book_of(rest=4), texts, {5: None, 6: (10, 4), 9: (10, 4), 10: None}, "bob")

    def test_by_age_and_by_rest(self):
        texts = ["buy a 3 ann tea 10", "buy b 5 ann tea 7"]
        self.assert_lapses(book_of(age=5, rest=4), texts, {3: (7, 10), 5: (8, 10), 8: (9, 7), 9: None})
        self.assert_lapses(book_of(age=6, rest=4), texts, {5: (9, 17)})
        # On day 8 a is aged, and behind that b has rested.
        self.assert_lapses(book_of(age=5, rest=3), texts, {5: (8, 17)})

    def test_several_piles_on_one_morning(self):
        texts = [
            "buy a 3 ann tea 10", "buy b 3 ann tea 7", "buy c 3 bob tea 5", "buy d 4 bob tea 9", "give e 4 bob ann 3",
            "lend f 4 bob ann 6 30",
        ]
        # Of c 5 go to ann: 3 are given, 2 are lent; of d 4 are lent.
        self.assert_lapses(book_of(age=5), texts, {4: (8, 22), 8: (9, 4), 9: None})
        self.assert_lapses(book_of(age=5), texts, {4: (9, 5), 8: (9, 5), 9: None}, "bob")

    def test_lapsing_that_a_later_deed_would_hinder(self):
        texts = ["buy a 3 ann tea 10", "spend s 5 ann 10"]
        self.assert_lapses(book_of(age=5), texts, {4: (8, 10), 5: None})

    def test_the_end_of_a_lending_brings_points_that_lapse_later(self):
        texts = ["buy a 3 ann tea 10", "lend l 3 ann bob 10 6"]
        self.assert_lapses(book_of(age=5), texts, {3: (8, 10), 5: (8, 10), 6: (8, 10), 7: (8, 10), 8: None})
        self.assert_lapses(book_of(age=5), texts, {2: None, 3: None, 5: None, 6: None}, "bob")

    def test_points_that_lapse_while_they_are_lent(self):
        texts = ["buy a 3 ann tea 10", "lend l 3 ann bob 7 9"]
        self.assert_lapses(book_of(age=5), texts, {3: (8, 3), 8: None})
        self.assert_lapses(book_of(age=5), texts, {3: (8, 7), 8: None}, "bob")

    def test_the_end_of_a_lending_on_the_morning_of_the_lapsing(self):
        texts = ["buy a 3 ann tea 10", "lend l 3 ann bob 7 8"]
        self.assert_lapses(book_of(age=5), texts, {3: (8, 10), 7: (8, 10), 8: None})
        self.assert_lapses(book_of(age=5), texts, {3: None, 7: None}, "bob")

    def test_the_end_of_a_lending_brings_points_to_a_purse_that_rests(self):
        texts = ["buy a 3 ann tea 10", "lend l 4 ann bob 7 20", "spend s 18 bob 1"]
        # ann's own 3 lapse on day 9; what comes back on day 20 lapses at once, for the coming back is no stir.
        self.assert_lapses(book_of(rest=5), texts, {4: (9, 3), 8: (9, 3), 9: None})
        self.assert_lapses(book_of(rest=18), texts, {4: (22, 10), 18: (22, 9), 20: (22, 9), 22: None})
        self.assert_lapses(book_of(rest=15), texts, {4: (19, 3), 18: (19, 3), 19: (20, 6), 20: None})

    def test_several_lendings_one_behind_the_other(self):
        texts = [
            "buy a 1 ann tea 10", "buy b 2 ann tea 10", "lend l 2 ann bob 10 5", "lend m 3 ann bob 4 30",
            "lend n 4 ann cid 6 30",
        ]
        self.assert_lapses(book_of(age=10), texts, {4: (11, 10), 11: None})
        self.assert_lapses(book_of(age=10), texts, {4: (12, 4), 12: None}, "bob")
        self.assert_lapses(book_of(age=10), texts, {4: (12, 6), 12: None}, "cid")

    def test_what_others_lapse_does_not_count(self):
        texts = ["buy a 1 bob tea 10", "buy b 2 cid tea 10", "buy c 4 ann tea 3"]
        self.assert_lapses(book_of(age=10), texts, {4: (14, 3), 12: (14, 3)})

    def test_lapsing_of_the_states_own_morning_does_not_count(self):
        texts = ["buy a 3 ann tea 10", "buy b 5 ann tea 7", "buy c 8 ann tea 1"]
        self.assert_lapses(book_of(age=5), texts, {8: (10, 7)})

    def test_what_is_paid_to_a_purse_that_rests(self):
        texts = ["buy a 1 bob tea 4", "lend l 1 bob ann 4 2", "spend s 1 ann 4", "buy b 30 ann tea 9"]
        self.assert_lapses(book_of(rest=5), texts, {2: None, 29: None, 30: (31, 4), 31: None}, "bob")
        self.assert_lapses(book_of(rest=5), texts, {29: None, 30: (35, 5), 31: (35, 5)})

    def test_far_days_in_short_time(self):
        self.assert_lapses(book_of(age=MOST), ["buy a 3 ann tea 10"], {3: (3 + MOST, 10), MOST: (3 + MOST, 10)})
        self.assert_lapses(book_of(rest=MOST), [f"buy a {MOST} ann tea 10"], {MOST: (2 * MOST, 10)})
        self.assert_lapses(
            book_of(age=MOST, rest=MOST - 1), [f"buy a {MOST} ann tea 10"], {MOST: (2 * MOST - 1, 10)}
        )
        texts = ["buy a 3 ann tea 10", f"lend l 4 ann bob 7 {MOST}"]
        self.assert_lapses(book_of(age=MOST), texts, {4: (MOST + 3, 10)})
        self.assert_lapses(book_of(age=MOST - 2), texts, {4: (MOST + 1, 10)})
        self.assert_lapses(book_of(age=MOST - 9), texts, {4: (MOST - 6, 3)})
        self.assert_lapses(book_of(age=MOST - 9), texts, {4: (MOST - 6, 7)}, "bob")
        self.assert_lapses(book_of(rest=9), texts, {4: (13, 3), 13: None})

    def test_asked_again_and_of_each_purse(self):
        texts = ["buy a 3 ann tea 10", "lend l 3 ann bob 7 9", "buy b 4 cid tea 2", "lend m 4 cid ann 1 7"]
        book = book_of(age=5)
        state = state_of(book, texts, 4)
        kept = everything_of(state)
        expected = {"ann": (8, 3), "bob": (8, 7), "cid": (9, 2), "dan": None}
        for purse in ("ann", "bob", "cid", "dan", "bob", "ann"):
            with self.subTest(purse=purse):
                self.assertEqual(next_lapse(state, book, purse), expected[purse])
        self.assertEqual(everything_of(state), kept)


if __name__ == "__main__":
    unittest.main()
