"""[12] to [15], with [1] and [2]: the walk, its mornings, how each deed is done, and what a State tells.

Deeds stand here by their texts [7]. Where nothing else is told, a buy brings as many points as it has money.
"""

import copy
import itertools
import unittest

from pointpurse.books import Book
from pointpurse.deedtext import read_deed
from pointpurse.houses import House
from pointpurse.walk import State, walked

MOST = 999999999999
FIELDS = ("day", "rows", "debts", "earned", "ends", "owed", "odds", "backs")


def house(name="shop", share=(1, 1), kinds=(), steps=(), doubles=(), cap=None, age=None, rest=None):
    return House(name, share, kinds, steps, doubles, cap, age, rest, [], 30, 0)


def shop_book(**fields):
    """One house; its purses don't stand in the order of their names."""
    return Book([house(**fields)], [("cid", "shop"), ("ann", "shop"), ("bob", "shop")], [])


def two_book(there, again=(1, 1), shop=None, mill=None):
    """Two houses with the rates there, from shop to mill, and again, from mill to shop."""
    return Book(
        [shop or house("shop"), mill or house("mill")],
        [("ann", "shop"), ("bob", "shop"), ("dan", "mill"), ("eve", "mill")],
        [("shop", "mill") + there, ("mill", "shop") + again],
    )


def deeds_of(texts):
    return [read_deed(text) for text in texts]


def fields_of(state):
    return {field: getattr(state, field) for field in FIELDS}


class WalkTestCase(unittest.TestCase):
    maxDiff = None

    def assert_walked(self, book, texts, day, rows=None, debts=None, earned=None, ends=(), owed=(), odds=None,
                      backs=None):
        """Walk the deeds in several orders, as a list and as a tuple: the State has just these fields each time."""
        purses = [purse for purse, name in book.purses]
        expected = {
            "day": day, "rows": {purse: (rows or {}).get(purse, []) for purse in purses},
            "debts": {purse: (debts or {}).get(purse, []) for purse in purses}, "earned": earned or {},
            "ends": list(ends), "owed": list(owed), "odds": odds or {}, "backs": backs or {},
        }
        deeds = deeds_of(texts)
        for handed in (deeds, deeds[::-1], deeds[1:] + deeds[:1], tuple(deeds), tuple(deeds[::-1])):
            kept = copy.copy(handed)
            state = walked(book, handed, day)
            self.assertEqual(fields_of(state), expected)
            self.assertEqual(handed, kept)

    def assert_rows(self, book, texts, day, rows):
        """Like assert_walked, but the rows alone."""
        purses = [purse for purse, name in book.purses]
        expected = {purse: rows.get(purse, []) for purse in purses}
        for deeds in (deeds_of(texts), tuple(deeds_of(texts)[::-1])):
            self.assertEqual(walked(book, deeds, day).rows, expected)


class StateAsAWhole(WalkTestCase):
    BOOK = Book(
        [house("shop", age=20), house("mill")],
        [("ann", "shop"), ("bob", "shop"), ("cid", "shop"), ("dan", "mill"), ("eve", "mill")],
        [("shop", "mill", 1, 3), ("mill", "shop", 1, 1)],
    )
    TEXTS = (
        "buy a 1 ann tea 50", "buy b 1 bob tea 9", "spend c 2 ann 4", "give d 3 ann bob 5", "lend e 3 ann bob 6 8",
        "change f 4 ann dan 10", "spend g 5 bob 23 a b", "buy h 9 bob tea 5", "back i 10 a", "buy j 12 eve tea 7",
        "change k 13 eve ann 2", "spend l 14 dan 5", "buy m 21 cid tea 1",
    )

    def test_no_deeds(self):
        for day in (0, 1, 30, MOST):
            self.assert_walked(shop_book(age=3, rest=2), [], day)
            self.assert_walked(two_book((1, 1)), [], day)

    def test_a_book_without_purses(self):
        self.assert_walked(Book([house()], [], []), [], 5)

    def test_all_fields(self):
        self.assert_walked(
            self.BOOK, self.TEXTS, 20,
            rows={"ann": [(9, "h", "", 2), (13, "k", "", 2)], "eve": [(12, "j", "", 5)]},
            debts={"bob": [("e", "ann", 4)], "ann": [("i", "", 25)], "dan": [("l", "", 2)]},
            earned={
                "a": ("buy", "ann", 1, 50), "b": ("buy", "bob", 1, 9), "f": ("change", "dan", 4, 3),
                "h": ("buy", "bob", 9, 5), "j": ("buy", "eve", 12, 7), "k": ("change", "ann", 13, 2),
            },
            ends=[
                ("a", "spent", "ann", "c", 2, 4), ("a", "changed", "ann", "f", 4, 10),
                ("a", "spent", "bob", "g", 5, 5), ("a", "spent", "bob", "g", 5, 6), ("b", "spent", "bob", "g", 5, 9),
                ("h", "paid", "bob", "g", 9, 3), ("a", "taken", "ann", "i", 10, 25),
                ("j", "changed", "eve", "k", 13, 2), ("f", "spent", "dan", "l", 14, 3),
            ],
            owed=[
                ("g", "bob", "", 5, 3), ("e", "bob", "ann", 8, 6), ("i", "ann", "", 10, 25), ("l", "dan", "", 14, 2),
            ],
            odds={("ann", "dan"): 1, ("eve", "ann"): 0}, backs={"a": 10},
        )

    def test_the_kinds_of_the_fields(self):
        state = walked(self.BOOK, deeds_of(self.TEXTS), 20)
        self.assertIs(type(state), State)
        for field in ("rows", "debts", "earned", "odds", "backs"):
            self.assertIs(type(getattr(state, field)), dict)
        for told in [state.ends, state.owed, *state.rows.values(), *state.debts.values()]:
            self.assertIs(type(told), list)
            for part in told:
                self.assertIs(type(part), tuple)
        for told in [*state.earned.values(), *state.odds]:
            self.assertIs(type(told), tuple)

    def test_no_two_lists_or_dicts_are_one_and_the_same(self):
        deeds = deeds_of(self.TEXTS)
        states = [walked(self.BOOK, asked, day) for asked in (deeds, []) for day in (0, 7, 20, 20, 21)]
        told = []
        for state in states:
            told.extend([getattr(state, field) for field in FIELDS if field != "day"])
            told.extend([*state.rows.values(), *state.debts.values()])
        self.assertEqual(len(set(map(id, told))), len(told))

    def test_a_state_stays_as_it_was_told(self):
        deeds = deeds_of(self.TEXTS)
        state = walked(self.BOOK, deeds, 20)
        kept = copy.deepcopy(fields_of(state))
        walked(self.BOOK, deeds, 60)
        walked(self.BOOK, deeds[:4], 20)
        deeds.clear()
        self.assertEqual(fields_of(state), kept)

    def test_changing_what_was_told_changes_nothing_here(self):
        deeds = deeds_of(self.TEXTS)
        for texts in (deeds, []):
            state = walked(self.BOOK, texts, 20)
            kept = copy.deepcopy(fields_of(state))
            for told in [*state.rows.values(), *state.debts.values(), state.ends, state.owed]:
                told.insert(0, (1, "z", "", 99))
            for told in (state.rows, state.debts, state.earned, state.odds, state.backs):
                told["zed"] = []
                told.pop("ann", None)
            self.assertEqual(fields_of(walked(self.BOOK, texts, 20)), kept)

    def test_what_is_handed_in_stays(self):
        deeds = deeds_of(self.TEXTS)
        book = (self.BOOK.houses, self.BOOK.purses, self.BOOK.rates)
        fields = [copy.deepcopy(vars(house)) for house in self.BOOK.houses]
        walked(self.BOOK, deeds, 60)
        self.assertEqual(deeds, deeds_of(self.TEXTS))
        self.assertEqual((self.BOOK.houses, self.BOOK.purses, self.BOOK.rates), book)
        self.assertEqual([vars(house) for house in self.BOOK.houses], fields)


class Order(WalkTestCase):
    def test_by_day(self):
        self.assert_walked(
            shop_book(), ["spend a 10 ann 5", "buy z 9 ann tea 5"], 10,
            earned={"z": ("buy", "ann", 9, 5)}, ends=[("z", "spent", "ann", "a", 10, 5)],
        )

    def test_on_one_day_by_ref(self):
        self.assert_walked(
            shop_book(), ["spend b 9 ann 5", "buy a 9 ann tea 5"], 9,
            earned={"a": ("buy", "ann", 9, 5)}, ends=[("a", "spent", "ann", "b", 9, 5)],
        )
        self.assert_walked(
            shop_book(), ["spend a 9 ann 5", "buy b 9 ann tea 5"], 9,
            earned={"b": ("buy", "ann", 9, 5)}, owed=[("a", "ann", "", 9, 5)],
            ends=[("b", "paid", "ann", "a", 9, 5)],
        )

    def test_refs_stand_in_the_order_of_texts(self):
        self.assert_rows(shop_book(), ["spend b 3 ann 5", "buy aaa 3 ann tea 5"], 3, {})
        state = walked(shop_book(), deeds_of(["spend b 3 ann 5", "buy ba 3 ann tea 9"]), 3)
        self.assertEqual(state.ends, [("ba", "paid", "ann", "b", 3, 5)])

    def test_the_kind_of_a_deed_does_not_count(self):
        self.assert_rows(
            shop_book(), ["spend b 3 ann 5", "give a 3 bob ann 5", "buy c 2 bob tea 5", "buy d 3 ann tea 1"], 3,
            {"ann": [(3, "d", "", 1)]},
        )

    def test_all_orders_give_the_same_state(self):
        texts = ["buy c 3 ann tea 9", "spend a 3 ann 4", "lend b 4 ann bob 3 6", "back e 5 c", "buy d 4 bob tea 2"]
        expected = fields_of(walked(shop_book(), deeds_of(texts), 7))
        for deeds in itertools.permutations(deeds_of(texts)):
            self.assertEqual(fields_of(walked(shop_book(), deeds, 7)), expected)
            self.assertEqual(fields_of(walked(shop_book(), list(deeds), 7)), expected)

    def test_deeds_of_later_days_are_left_out(self):
        texts = ["buy a 3 ann tea 5", "buy b 4 ann tea 6", "buy c 5 ann tea 7", "spend d 5 ann 1"]
        a, b, c = ("buy", "ann", 3, 5), ("buy", "ann", 4, 6), ("buy", "ann", 5, 7)
        self.assert_walked(shop_book(), texts, 0)
        self.assert_walked(shop_book(), texts, 2)
        self.assert_walked(shop_book(), texts, 3, rows={"ann": [(3, "a", "", 5)]}, earned={"a": a})
        self.assert_walked(
            shop_book(), texts, 4, rows={"ann": [(3, "a", "", 5), (4, "b", "", 6)]}, earned={"a": a, "b": b}
        )
        for day in (5, 6, 99, MOST):
            self.assert_walked(
                shop_book(), texts, day, rows={"ann": [(3, "a", "", 4), (4, "b", "", 6), (5, "c", "", 7)]},
                earned={"a": a, "b": b, "c": c}, ends=[("a", "spent", "ann", "d", 5, 1)],
            )

    def test_the_first_day(self):
        self.assert_walked(
            shop_book(), ["buy a 0 ann tea 5", "spend b 0 ann 2"], 0, rows={"ann": [(0, "a", "", 3)]},
            earned={"a": ("buy", "ann", 0, 5)}, ends=[("a", "spent", "ann", "b", 0, 2)],
        )

    def test_far_days(self):
        texts = [f"buy a {MOST - 9} ann tea 5", f"spend b {MOST} ann 2"]
        a = ("buy", "ann", MOST - 9, 5)
        self.assert_walked(
            shop_book(age=10, rest=10), texts, MOST, rows={"ann": [(MOST - 9, "a", "", 3)]}, earned={"a": a},
            ends=[("a", "spent", "ann", "b", MOST, 2)],
        )
        self.assert_walked(
            shop_book(age=9, rest=10), texts, MOST, debts={"ann": [("b", "", 2)]}, earned={"a": a},
            ends=[("a", "lapsed", "ann", "", MOST, 5)], owed=[("b", "ann", "", MOST, 2)],
        )


class Buys(WalkTestCase):
    def test_one(self):
        self.assert_walked(
            shop_book(), ["buy r 3 ann tea 50"], 3, rows={"ann": [(3, "r", "", 50)]},
            earned={"r": ("buy", "ann", 3, 50)},
        )

    def test_share_kinds_steps_and_doubles(self):
        book = shop_book(share=(1, 10), kinds=[("tea", 2)], steps=[(100, 5)], doubles=[(10, 20, 3)])
        self.assert_walked(
            book, ["buy a 9 ann tea 80 cake 30", "buy b 10 ann tea 80 cake 30", "buy c 21 bob tea 99"], 21,
            rows={"ann": [(9, "a", "", 24), (10, "b", "", 72)], "bob": [(21, "c", "", 19)]},
            earned={"a": ("buy", "ann", 9, 24), "b": ("buy", "ann", 10, 72), "c": ("buy", "bob", 21, 19)},
        )

    def test_each_purse_by_its_own_house(self):
        book = two_book((1, 1), shop=house("shop", share=(2, 1)), mill=house("mill", share=(1, 2), cap=3))
        self.assert_walked(
            book, ["buy a 1 ann tea 9", "buy b 1 dan tea 9"], 1,
            rows={"ann": [(1, "a", "", 18)], "dan": [(1, "b", "", 3)]},
            earned={"a": ("buy", "ann", 1, 18), "b": ("buy", "dan", 1, 3)},
        )

    def test_several_of_one_purse_and_day_lie_by_their_refs(self):
        self.assert_walked(
            shop_book(), ["buy b 3 ann tea 5", "buy a 3 ann tea 6", "buy c 2 ann tea 7"], 4,
            rows={"ann": [(2, "c", "", 7), (3, "a", "", 6), (3, "b", "", 5)]},
            earned={"a": ("buy", "ann", 3, 6), "b": ("buy", "ann", 3, 5), "c": ("buy", "ann", 2, 7)},
        )

    def test_what_brings_nothing_is_earned_and_not_laid(self):
        self.assert_walked(shop_book(), ["buy r 3 ann tea 0"], 4, earned={"r": ("buy", "ann", 3, 0)})
        self.assert_walked(shop_book(share=(0, 1)), ["buy r 3 ann tea 9"], 4, earned={"r": ("buy", "ann", 3, 0)})
        self.assert_walked(shop_book(share=(1, 9)), ["buy r 3 ann tea 8"], 4, earned={"r": ("buy", "ann", 3, 0)})
        self.assert_walked(shop_book(cap=0), ["buy r 3 ann tea 8"], 4, earned={"r": ("buy", "ann", 3, 0)})

    def test_a_cap_over_one_buy(self):
        for money, points in ((49, 49), (50, 50), (51, 50), (MOST, 50)):
            self.assert_walked(
                shop_book(cap=50), [f"buy r 3 ann tea {money}"], 3, rows={"ann": [(3, "r", "", points)]},
                earned={"r": ("buy", "ann", 3, points)},
            )

    def test_a_cap_over_several_buys_of_one_purse_and_day(self):
        self.assert_walked(
            shop_book(cap=50), ["buy a 3 ann tea 30", "buy b 3 ann tea 30", "buy c 3 ann tea 10"], 3,
            rows={"ann": [(3, "a", "", 30), (3, "b", "", 20)]},
            earned={"a": ("buy", "ann", 3, 30), "b": ("buy", "ann", 3, 20), "c": ("buy", "ann", 3, 0)},
        )

    def test_a_cap_is_for_each_purse_and_each_day(self):
        self.assert_walked(
            shop_book(cap=50),
            ["buy a 3 ann tea 40", "buy b 3 bob tea 45", "buy c 3 ann tea 40", "buy d 4 ann tea 60",
             "buy e 2 ann tea 20"], 4,
            rows={
                "ann": [(2, "e", "", 20), (3, "a", "", 40), (3, "c", "", 10), (4, "d", "", 50)],
                "bob": [(3, "b", "", 45)],
            },
            earned={
                "a": ("buy", "ann", 3, 40), "b": ("buy", "bob", 3, 45), "c": ("buy", "ann", 3, 10),
                "d": ("buy", "ann", 4, 50), "e": ("buy", "ann", 2, 20),
            },
        )

    def test_a_cap_counts_behind_steps_and_doubles(self):
        book = shop_book(cap=50, steps=[(10, 7)], doubles=[(3, 3, 2)])
        self.assert_walked(
            book, ["buy a 3 ann tea 16", "buy b 3 ann tea 16"], 3,
            rows={"ann": [(3, "a", "", 46), (3, "b", "", 4)]},
            earned={"a": ("buy", "ann", 3, 46), "b": ("buy", "ann", 3, 4)},
        )

    def test_a_cap_counts_what_was_spent_given_and_paid(self):
        state = walked(shop_book(cap=50), deeds_of([
            "spend a 3 ann 5", "buy b 3 ann tea 30", "spend c 3 ann 9", "give d 3 ann bob 16", "buy e 3 ann tea 30",
            "buy f 3 bob tea 60",
        ]), 3)
        self.assertEqual(state.earned, {
            "b": ("buy", "ann", 3, 30), "e": ("buy", "ann", 3, 20), "f": ("buy", "bob", 3, 50),
        })

    def test_a_cap_does_not_count_changes(self):
        book = two_book((1, 1), mill=house("mill", cap=10))
        state = walked(book, deeds_of(["buy a 3 ann tea 40", "change b 3 ann dan 30", "buy c 3 dan tea 60"]), 3)
        self.assertEqual(state.rows["dan"], [(3, "b", "", 30), (3, "c", "", 10)])


class Spendings(WalkTestCase):
    BUYS = ["buy a 1 ann tea 5", "buy b 2 ann tea 6", "buy c 3 ann tea 7"]
    EARNED = {"a": ("buy", "ann", 1, 5), "b": ("buy", "ann", 2, 6), "c": ("buy", "ann", 3, 7)}

    def assert_spent(self, spending, left, spent):
        """spent: pairs (source, points) in the order of the ends."""
        ref, day = spending.split()[1:3]
        self.assert_walked(
            shop_book(), self.BUYS + [spending], 9, rows={"ann": left}, earned=self.EARNED,
            ends=[(source, "spent", "ann", ref, int(day), points) for source, points in spent],
        )

    def test_without_first_the_eldest_go(self):
        self.assert_spent("spend s 4 ann 3", [(1, "a", "", 2), (2, "b", "", 6), (3, "c", "", 7)], [("a", 3)])
        self.assert_spent("spend s 4 ann 5", [(2, "b", "", 6), (3, "c", "", 7)], [("a", 5)])
        self.assert_spent("spend s 4 ann 12", [(3, "c", "", 6)], [("a", 5), ("b", 6), ("c", 1)])

    def test_all_that_there_are(self):
        self.assert_spent("spend s 4 ann 18", [], [("a", 5), ("b", 6), ("c", 7)])

    def test_by_first(self):
        self.assert_spent("spend s 4 ann 3 b", [(1, "a", "", 5), (2, "b", "", 3), (3, "c", "", 7)], [("b", 3)])
        self.assert_spent("spend s 4 ann 9 c", [(1, "a", "", 3), (2, "b", "", 6)], [("a", 2), ("c", 7)])
        self.assert_spent("spend s 4 ann 9 c b", [(1, "a", "", 5), (2, "b", "", 4)], [("b", 2), ("c", 7)])
        self.assert_spent("spend s 4 ann 9 b c", [(1, "a", "", 5), (3, "c", "", 4)], [("b", 6), ("c", 3)])

    def test_first_with_sources_that_are_not_there(self):
        self.assert_spent("spend s 4 ann 3 x s", [(1, "a", "", 2), (2, "b", "", 6), (3, "c", "", 7)], [("a", 3)])
        self.assert_spent("spend s 4 ann 3 x c", [(1, "a", "", 5), (2, "b", "", 6), (3, "c", "", 4)], [("c", 3)])

    def test_only_what_is_there_on_the_day(self):
        self.assert_spent("spend s 2 ann 5 c", [(2, "b", "", 6), (3, "c", "", 7)], [("a", 5)])

    def test_of_its_own_purse_alone(self):
        self.assert_walked(
            shop_book(), ["buy a 1 ann tea 5", "buy b 1 bob tea 6", "spend s 2 bob 4 a"], 3,
            rows={"ann": [(1, "a", "", 5)], "bob": [(1, "b", "", 2)]},
            earned={"a": ("buy", "ann", 1, 5), "b": ("buy", "bob", 1, 6)}, ends=[("b", "spent", "bob", "s", 2, 4)],
        )

    def test_several(self):
        self.assert_walked(
            shop_book(), self.BUYS + ["spend t 4 ann 4", "spend s 5 ann 4", "spend r 6 ann 4 c"], 9,
            rows={"ann": [(2, "b", "", 3), (3, "c", "", 3)]}, earned=self.EARNED,
            ends=[
                ("a", "spent", "ann", "t", 4, 4), ("a", "spent", "ann", "s", 5, 1), ("b", "spent", "ann", "s", 5, 3),
                ("c", "spent", "ann", "r", 6, 4),
            ],
        )

    def test_piles_that_are_lent_are_spent_too(self):
        self.assert_walked(
            shop_book(), ["buy a 1 bob tea 5", "buy b 2 ann tea 6", "lend l 3 bob ann 4 9", "spend s 4 ann 7"], 5,
            rows={"ann": [(2, "b", "", 3)], "bob": [(1, "a", "", 1)]},
            earned={"a": ("buy", "bob", 1, 5), "b": ("buy", "ann", 2, 6)},
            ends=[("a", "spent", "ann", "s", 4, 4), ("b", "spent", "ann", "s", 4, 3)],
        )

    def test_own_and_lent_piles_of_one_source_end_one_by_one(self):
        self.assert_walked(
            shop_book(),
            ["buy a 1 bob tea 9", "buy b 1 ann tea 6", "give g 2 bob ann 2", "lend m 3 bob ann 3 9",
             "lend l 3 bob ann 4 9", "spend s 4 ann 8 a"], 5,
            rows={"ann": [(1, "a", "m", 1), (1, "b", "", 6)]},
            earned={"a": ("buy", "bob", 1, 9), "b": ("buy", "ann", 1, 6)},
            ends=[("a", "spent", "ann", "s", 4, 2), ("a", "spent", "ann", "s", 4, 4), ("a", "spent", "ann", "s", 4, 2)],
        )

    def test_too_few_points(self):
        self.assert_walked(
            shop_book(), ["buy a 1 ann tea 5", "spend s 2 ann 8"], 3, debts={"ann": [("s", "", 3)]},
            earned={"a": ("buy", "ann", 1, 5)}, ends=[("a", "spent", "ann", "s", 2, 5)],
            owed=[("s", "ann", "", 2, 3)],
        )

    def test_no_points(self):
        self.assert_walked(
            shop_book(), ["spend s 2 ann 8"], 3, debts={"ann": [("s", "", 8)]}, owed=[("s", "ann", "", 2, 8)]
        )

    def test_several_debts_stand_as_they_came(self):
        self.assert_walked(
            shop_book(), ["spend z 2 ann 8", "spend b 3 ann 4", "spend a 3 bob 2", "spend c 3 ann 1"], 3,
            debts={"ann": [("z", "", 8), ("b", "", 4), ("c", "", 1)], "bob": [("a", "", 2)]},
            owed=[("z", "ann", "", 2, 8), ("a", "bob", "", 3, 2), ("b", "ann", "", 3, 4), ("c", "ann", "", 3, 1)],
        )


class Debts(WalkTestCase):
    SPENDINGS = ["spend z 2 ann 8", "spend b 3 ann 4"]
    OWED = [("z", "ann", "", 2, 8), ("b", "ann", "", 3, 4)]

    def assert_paid(self, money, debts, ends, left):
        self.assert_walked(
            shop_book(), self.SPENDINGS + [f"buy r 5 ann tea {money}"], 6, rows={"ann": left}, debts={"ann": debts},
            earned={"r": ("buy", "ann", 5, money)}, owed=self.OWED,
            ends=[("r", "paid", "ann", ref, 5, points) for ref, points in ends],
        )

    def test_paid_by_a_buy_in_their_order(self):
        self.assert_paid(0, [("z", "", 8), ("b", "", 4)], [], [])
        self.assert_paid(3, [("z", "", 5), ("b", "", 4)], [("z", 3)], [])
        self.assert_paid(8, [("b", "", 4)], [("z", 8)], [])
        self.assert_paid(9, [("b", "", 3)], [("z", 8), ("b", 1)], [])
        self.assert_paid(12, [], [("z", 8), ("b", 4)], [])
        self.assert_paid(20, [], [("z", 8), ("b", 4)], [(5, "r", "", 8)])

    def test_paid_by_several_buys(self):
        self.assert_walked(
            shop_book(), self.SPENDINGS + ["buy s 5 ann tea 3", "buy r 6 ann tea 6", "buy t 6 ann tea 5"], 6,
            rows={"ann": [(6, "t", "", 2)]},
            earned={"s": ("buy", "ann", 5, 3), "r": ("buy", "ann", 6, 6), "t": ("buy", "ann", 6, 5)},
            ends=[
                ("s", "paid", "ann", "z", 5, 3), ("r", "paid", "ann", "z", 6, 5), ("r", "paid", "ann", "b", 6, 1),
                ("t", "paid", "ann", "b", 6, 3),
            ],
            owed=self.OWED,
        )

    def test_spent_and_paid_ends_stand_as_they_came(self):
        self.assert_walked(
            shop_book(), ["buy a 1 ann tea 5", "spend s 2 ann 8", "buy b 3 ann tea 9", "spend t 4 ann 10",
                          "buy c 5 ann tea 1"], 6,
            debts={"ann": [("t", "", 3)]},
            earned={"a": ("buy", "ann", 1, 5), "b": ("buy", "ann", 3, 9), "c": ("buy", "ann", 5, 1)},
            ends=[
                ("a", "spent", "ann", "s", 2, 5), ("b", "paid", "ann", "s", 3, 3), ("b", "spent", "ann", "t", 4, 6),
                ("c", "paid", "ann", "t", 5, 1),
            ],
            owed=[("s", "ann", "", 2, 3), ("t", "ann", "", 4, 4)],
        )

    def test_a_cap_holds_ahead_of_the_paying(self):
        self.assert_walked(
            shop_book(cap=10), ["spend s 2 ann 6", "buy a 3 ann tea 50", "buy b 3 ann tea 50"], 3,
            rows={"ann": [(3, "a", "", 4)]}, earned={"a": ("buy", "ann", 3, 10), "b": ("buy", "ann", 3, 0)},
            ends=[("a", "paid", "ann", "s", 3, 6)], owed=[("s", "ann", "", 2, 6)],
        )

    def test_the_buys_of_others_pay_nothing(self):
        self.assert_walked(
            shop_book(), ["spend s 2 ann 6", "buy a 3 bob tea 50"], 3, rows={"bob": [(3, "a", "", 50)]},
            debts={"ann": [("s", "", 6)]}, earned={"a": ("buy", "bob", 3, 50)}, owed=[("s", "ann", "", 2, 6)],
        )

    def test_what_is_given_or_lent_pays_nothing(self):
        self.assert_walked(
            shop_book(), ["spend s 2 ann 6", "buy a 3 bob tea 50", "give g 4 bob ann 9", "lend l 4 bob ann 8 7"], 5,
            rows={"bob": [(3, "a", "", 33)], "ann": [(3, "a", "", 9), (3, "a", "l", 8)]},
            debts={"ann": [("s", "", 6)]}, earned={"a": ("buy", "bob", 3, 50)}, owed=[("s", "ann", "", 2, 6)],
        )

    def test_what_comes_back_pays_nothing(self):
        self.assert_walked(
            shop_book(), ["buy a 1 ann tea 9", "lend l 1 ann bob 9 4", "spend s 2 ann 6"], 4,
            rows={"ann": [(1, "a", "", 9)]}, debts={"ann": [("s", "", 6)]}, earned={"a": ("buy", "ann", 1, 9)},
            owed=[("s", "ann", "", 2, 6)],
        )

    def test_what_is_changed_pays_nothing(self):
        self.assert_walked(
            two_book((1, 1)), ["spend s 2 dan 6", "buy a 3 ann tea 50", "change c 4 ann dan 9"], 5,
            rows={"ann": [(3, "a", "", 41)], "dan": [(4, "c", "", 9)]}, debts={"dan": [("s", "", 6)]},
            earned={"a": ("buy", "ann", 3, 50), "c": ("change", "dan", 4, 9)},
            ends=[("a", "changed", "ann", "c", 4, 9)], owed=[("s", "dan", "", 2, 6)], odds={("ann", "dan"): 0},
        )

    def test_what_was_paid_to_a_purse_does_not_pay_its_own_debts(self):
        self.assert_walked(
            shop_book(),
            ["buy a 1 ann tea 5", "lend l 1 ann bob 5 4", "spend s 2 bob 5", "spend t 3 ann 2", "buy b 6 bob tea 9"],
            7, rows={"ann": [(6, "b", "", 5)], "bob": [(6, "b", "", 4)]}, debts={"ann": [("t", "", 2)]},
            earned={"a": ("buy", "ann", 1, 5), "b": ("buy", "bob", 6, 9)}, ends=[("a", "spent", "bob", "s", 2, 5)],
            owed=[("t", "ann", "", 3, 2), ("l", "bob", "ann", 4, 5)],
        )

    def test_points_beside_a_debt_are_spent_as_ever(self):
        self.assert_walked(
            shop_book(), ["spend s 1 ann 6", "buy a 2 bob tea 5", "give g 2 bob ann 5", "spend t 3 ann 4"], 3,
            rows={"ann": [(2, "a", "", 1)]}, debts={"ann": [("s", "", 6)]}, earned={"a": ("buy", "bob", 2, 5)},
            ends=[("a", "spent", "ann", "t", 3, 4)], owed=[("s", "ann", "", 1, 6)],
        )


class LapsingOfAge(WalkTestCase):
    A = ("buy", "ann", 3, 9)

    def test_just_as_old_as_the_age(self):
        for day in (3, 6, 7):
            self.assert_walked(
                shop_book(age=5), ["buy a 3 ann tea 9"], day, rows={"ann": [(3, "a", "", 9)]}, earned={"a": self.A}
            )
        for day in (8, 9, 100, MOST):
            self.assert_walked(
                shop_book(age=5), ["buy a 3 ann tea 9"], day, earned={"a": self.A},
                ends=[("a", "lapsed", "ann", "", 8, 9)],
            )

    def test_an_age_of_one_day(self):
        self.assert_rows(shop_book(age=1), ["buy a 3 ann tea 9"], 3, {"ann": [(3, "a", "", 9)]})
        self.assert_walked(
            shop_book(age=1), ["buy a 3 ann tea 9"], 4, earned={"a": self.A}, ends=[("a", "lapsed", "ann", "", 4, 9)]
        )

    def test_none_lapses_without_an_age(self):
        for day in (3, 8, MOST):
            self.assert_walked(
                shop_book(), ["buy a 3 ann tea 9"], day, rows={"ann": [(3, "a", "", 9)]}, earned={"a": self.A}
            )

    def test_far_days(self):
        for day in (999999999992, 999999999993, MOST):
            lapsed = day >= 999999999993
            self.assert_walked(
                shop_book(age=999999999990), ["buy a 3 ann tea 9"], day,
                rows={} if lapsed else {"ann": [(3, "a", "", 9)]}, earned={"a": self.A},
                ends=[("a", "lapsed", "ann", "", 999999999993, 9)] if lapsed else [],
            )

    def test_each_pile_at_its_own_time(self):
        self.assert_walked(
            shop_book(age=5), ["buy c 1 ann tea 7", "buy a 3 ann tea 9", "spend s 4 ann 2", "buy b 7 ann tea 4"], 10,
            rows={"ann": [(7, "b", "", 4)]},
            earned={"c": ("buy", "ann", 1, 7), "a": self.A, "b": ("buy", "ann", 7, 4)},
            ends=[
                ("c", "spent", "ann", "s", 4, 2), ("c", "lapsed", "ann", "", 6, 5), ("a", "lapsed", "ann", "", 8, 9)
            ],
        )

    def test_a_deed_on_the_day_comes_behind_the_morning(self):
        self.assert_walked(
            shop_book(age=5), ["buy a 3 ann tea 9", "spend aa 8 ann 4", "buy ab 8 ann tea 6"], 8,
            rows={"ann": [(8, "ab", "", 2)]}, earned={"a": self.A, "ab": ("buy", "ann", 8, 6)},
            ends=[("a", "lapsed", "ann", "", 8, 9), ("ab", "paid", "ann", "aa", 8, 4)],
            owed=[("aa", "ann", "", 8, 4)],
        )

    def test_a_deed_of_the_day_ahead_comes_ahead_of_the_morning(self):
        self.assert_walked(
            shop_book(age=5), ["buy a 3 ann tea 9", "spend z 7 ann 4"], 8, earned={"a": self.A},
            ends=[("a", "spent", "ann", "z", 7, 4), ("a", "lapsed", "ann", "", 8, 5)],
        )

    def test_several_piles_on_one_morning_in_the_order_of_the_row(self):
        self.assert_walked(
            shop_book(age=5), ["buy b 3 ann tea 4", "buy a 3 ann tea 9", "buy c 3 ann tea 2"], 8,
            earned={"a": self.A, "b": ("buy", "ann", 3, 4), "c": ("buy", "ann", 3, 2)},
            ends=[
                ("a", "lapsed", "ann", "", 8, 9), ("b", "lapsed", "ann", "", 8, 4), ("c", "lapsed", "ann", "", 8, 2)
            ],
        )

    def test_piles_of_one_source_lapse_one_by_one(self):
        self.assert_walked(
            shop_book(age=5), ["buy a 3 ann tea 9", "give g 4 ann bob 2", "lend m 4 ann bob 3 20",
                               "lend l 4 ann bob 1 20"], 8,
            earned={"a": self.A},
            ends=[
                ("a", "lapsed", "ann", "", 8, 3), ("a", "lapsed", "bob", "", 8, 2), ("a", "lapsed", "bob", "", 8, 1),
                ("a", "lapsed", "bob", "", 8, 3),
            ],
        )

    def test_several_purses_in_the_order_of_the_book(self):
        self.assert_walked(
            shop_book(age=5), ["buy a 3 bob tea 4", "buy b 3 ann tea 9", "buy c 3 cid tea 2"], 8,
            earned={"a": ("buy", "bob", 3, 4), "b": ("buy", "ann", 3, 9), "c": ("buy", "cid", 3, 2)},
            ends=[
                ("c", "lapsed", "cid", "", 8, 2), ("b", "lapsed", "ann", "", 8, 9), ("a", "lapsed", "bob", "", 8, 4)
            ],
        )

    def test_mornings_of_days_without_deeds_come_in_order(self):
        self.assert_walked(
            shop_book(age=5), ["buy a 3 ann tea 9", "buy b 4 bob tea 4", "buy c 5 cid tea 2", "spend s 20 cid 1"], 20,
            debts={"cid": [("s", "", 1)]},
            earned={"a": self.A, "b": ("buy", "bob", 4, 4), "c": ("buy", "cid", 5, 2)},
            ends=[
                ("a", "lapsed", "ann", "", 8, 9), ("b", "lapsed", "bob", "", 9, 4), ("c", "lapsed", "cid", "", 10, 2)
            ],
            owed=[("s", "cid", "", 20, 1)],
        )

    def test_each_purse_by_its_own_house(self):
        book = two_book((1, 1), shop=house("shop", age=5), mill=house("mill", age=2))
        self.assert_walked(
            book, ["buy a 3 ann tea 9", "buy b 3 dan tea 4"], 7, rows={"ann": [(3, "a", "", 9)]},
            earned={"a": self.A, "b": ("buy", "dan", 3, 4)}, ends=[("b", "lapsed", "dan", "", 5, 4)],
        )

    def test_what_is_given_does_not_grow_younger(self):
        self.assert_walked(
            shop_book(age=5), ["buy a 3 ann tea 9", "give g 7 ann bob 4"], 8, earned={"a": self.A},
            ends=[("a", "lapsed", "ann", "", 8, 5), ("a", "lapsed", "bob", "", 8, 4)],
        )


class LapsingOfRest(WalkTestCase):
    A = ("buy", "ann", 3, 9)

    def assert_lapses_on(self, book, texts, purse, day):
        """All points of the purse lapse in the morning of this day, and it has some on the day ahead."""
        deeds = deeds_of(texts)
        self.assertNotEqual(walked(book, deeds, day - 1).rows[purse], [])
        self.assertEqual(walked(book, deeds, day).rows[purse], [])
        for asked in (day, day + 3):
            state = walked(book, deeds, asked)
            self.assertEqual([end[4] for end in state.ends if end[1:3] == ("lapsed", purse)][-1], day)

    def test_just_as_long_as_the_rest(self):
        for day in (3, 6):
            self.assert_walked(
                shop_book(rest=4), ["buy a 3 ann tea 9"], day, rows={"ann": [(3, "a", "", 9)]}, earned={"a": self.A}
            )
        for day in (7, 8, 100, MOST):
            self.assert_walked(
                shop_book(rest=4), ["buy a 3 ann tea 9"], day, earned={"a": self.A},
                ends=[("a", "lapsed", "ann", "", 7, 9)],
            )

    def test_a_rest_of_one_day(self):
        self.assert_lapses_on(shop_book(rest=1), ["buy a 3 ann tea 9"], "ann", 4)
        self.assert_lapses_on(shop_book(rest=1), ["buy a 3 ann tea 9", "buy b 4 ann tea 1"], "ann", 5)

    def test_far_days(self):
        for day in (999999999992, 999999999993, MOST):
            lapsed = day >= 999999999993
            self.assert_walked(
                shop_book(rest=999999999990), ["buy a 3 ann tea 9"], day,
                rows={} if lapsed else {"ann": [(3, "a", "", 9)]}, earned={"a": self.A},
                ends=[("a", "lapsed", "ann", "", 999999999993, 9)] if lapsed else [],
            )

    def test_all_piles_lapse_in_the_order_of_the_row(self):
        self.assert_walked(
            shop_book(rest=4), ["buy b 2 ann tea 4", "buy a 3 ann tea 9", "buy c 0 ann tea 2"], 7,
            earned={"a": self.A, "b": ("buy", "ann", 2, 4), "c": ("buy", "ann", 0, 2)},
            ends=[
                ("c", "lapsed", "ann", "", 7, 2), ("b", "lapsed", "ann", "", 7, 4), ("a", "lapsed", "ann", "", 7, 9)
            ],
        )

    def test_several_purses_in_the_order_of_the_book(self):
        self.assert_walked(
            shop_book(rest=5), ["buy a 3 bob tea 4", "buy b 3 ann tea 9", "buy c 3 cid tea 2"], 8,
            earned={"a": ("buy", "bob", 3, 4), "b": ("buy", "ann", 3, 9), "c": ("buy", "cid", 3, 2)},
            ends=[
                ("c", "lapsed", "cid", "", 8, 2), ("b", "lapsed", "ann", "", 8, 9), ("a", "lapsed", "bob", "", 8, 4)
            ],
        )

    def test_a_purse_that_never_stirred(self):
        self.assert_walked(shop_book(rest=4), ["back b 1 x"], 30)

    def test_a_buy_stirs(self):
        self.assert_lapses_on(shop_book(rest=4), ["buy a 3 ann tea 9", "buy b 6 ann tea 1"], "ann", 10)
        self.assert_lapses_on(shop_book(rest=4), ["buy a 3 ann tea 9", "buy b 6 ann tea 0"], "ann", 10)

    def test_a_spending_stirs(self):
        self.assert_lapses_on(shop_book(rest=4), ["buy a 3 ann tea 9", "spend b 5 ann 1"], "ann", 9)

    def test_a_giving_stirs_both(self):
        texts = ["buy a 3 ann tea 9", "buy b 3 bob tea 9", "give g 6 ann bob 2"]
        self.assert_lapses_on(shop_book(rest=4), texts, "ann", 10)
        self.assert_lapses_on(shop_book(rest=4), texts, "bob", 10)

    def test_a_lending_stirs_both(self):
        texts = ["buy a 3 ann tea 9", "buy b 3 bob tea 9", "lend l 6 ann bob 2 30"]
        self.assert_lapses_on(shop_book(rest=4), texts, "ann", 10)
        self.assert_lapses_on(shop_book(rest=4), texts, "bob", 10)

    def test_a_change_stirs_both(self):
        book = two_book((1, 1), shop=house("shop", rest=4), mill=house("mill", rest=6))
        texts = ["buy a 3 ann tea 9", "buy b 3 dan tea 9", "change c 6 ann dan 2"]
        self.assert_lapses_on(book, texts, "ann", 10)
        self.assert_lapses_on(book, texts, "dan", 12)

    def test_a_deed_that_moves_nothing_stirs_both(self):
        book = two_book((0, 1), shop=house("shop", rest=4), mill=house("mill", rest=4))
        buys = ["buy a 3 ann tea 9", "buy b 3 bob tea 9", "lend aa 3 bob ann 9 30", "buy c 3 dan tea 9"]
        self.assert_lapses_on(book, buys + ["give g 5 bob ann 1"], "ann", 9)
        self.assert_lapses_on(book, buys + ["lend l 5 bob ann 1 7"], "ann", 9)
        self.assert_lapses_on(book, buys + ["change k 5 bob dan 1"], "dan", 9)

    def test_other_purses_do_not_stir(self):
        book = two_book((1, 1), shop=house("shop", rest=4), mill=house("mill", rest=4))
        texts = [
            "buy a 3 ann tea 9", "buy b 4 bob tea 9", "spend s 5 bob 1", "change c 6 bob dan 1", "buy d 6 eve tea 2",
        ]
        self.assert_lapses_on(book, texts, "ann", 7)

    def test_a_taking_back_does_not_stir(self):
        texts = ["buy a 3 ann tea 9", "buy b 3 ann tea 5", "back c 5 a", "give d 3 ann bob 1", "back e 6 b"]
        self.assert_lapses_on(shop_book(rest=4), texts[:3], "ann", 7)
        self.assert_lapses_on(shop_book(rest=4), texts, "bob", 7)

    def test_the_end_of_a_lending_does_not_stir(self):
        texts = ["buy a 3 ann tea 9", "buy b 3 bob tea 9", "lend l 3 ann bob 2 6"]
        self.assert_lapses_on(shop_book(rest=4), texts, "ann", 7)
        self.assert_lapses_on(shop_book(rest=4), texts, "bob", 7)

    def test_the_last_stir_counts(self):
        texts = [
            "buy a 3 ann tea 9", "spend b 6 ann 1", "spend c 9 ann 1", "spend d 4 ann 1", "spend e 12 ann 1",
            "spend f 15 ann 1",
        ]
        self.assert_lapses_on(shop_book(rest=4), texts, "ann", 19)

    def test_a_stir_on_the_day_of_the_lapsing_comes_too_late(self):
        self.assert_walked(
            shop_book(rest=4), ["buy b 3 ann tea 9", "buy a 7 ann tea 2"], 9, rows={"ann": [(7, "a", "", 2)]},
            earned={"b": ("buy", "ann", 3, 9), "a": ("buy", "ann", 7, 2)}, ends=[("b", "lapsed", "ann", "", 7, 9)],
        )

    def test_points_that_are_lent_lapse_too(self):
        self.assert_walked(
            shop_book(rest=4), ["buy a 3 ann tea 9", "lend l 3 ann bob 2 20", "spend s 6 ann 1"], 7,
            rows={"ann": [(3, "a", "", 6)]}, earned={"a": self.A},
            ends=[("a", "spent", "ann", "s", 6, 1), ("a", "lapsed", "bob", "", 7, 2)],
        )

    def test_what_comes_back_to_a_purse_that_rests_lapses_on_that_morning(self):
        self.assert_walked(
            shop_book(rest=4), ["buy a 3 ann tea 9", "lend l 3 ann bob 2 20", "spend s 4 bob 1", "buy b 7 bob tea 1",
                                "buy c 10 bob tea 1", "buy d 13 bob tea 1", "buy e 16 bob tea 1",
                                "buy f 19 bob tea 1"], 20,
            rows={"bob": [(7, "b", "", 1), (10, "c", "", 1), (13, "d", "", 1), (16, "e", "", 1), (19, "f", "", 1)]},
            debts={"bob": [("l", "ann", 1)]},
            earned={
                "a": self.A, "b": ("buy", "bob", 7, 1), "c": ("buy", "bob", 10, 1), "d": ("buy", "bob", 13, 1),
                "e": ("buy", "bob", 16, 1), "f": ("buy", "bob", 19, 1),
            },
            ends=[
                ("a", "spent", "bob", "s", 4, 1), ("a", "lapsed", "ann", "", 7, 7), ("a", "lapsed", "ann", "", 20, 1)
            ],
            owed=[("l", "bob", "ann", 20, 1)],
        )

    def test_what_is_paid_to_a_purse_that_rests_lapses_on_the_next_morning(self):
        self.assert_walked(
            shop_book(rest=4), ["buy a 1 ann tea 5", "lend l 1 ann bob 5 3", "spend s 2 bob 5", "buy b 30 bob tea 9"],
            31, rows={"bob": [(30, "b", "", 4)]}, earned={"a": ("buy", "ann", 1, 5), "b": ("buy", "bob", 30, 9)},
            ends=[("a", "spent", "bob", "s", 2, 5), ("b", "lapsed", "ann", "", 31, 5)],
            owed=[("l", "bob", "ann", 3, 5)],
        )

    def test_all_that_are_aged_lapse_ahead_of_all_that_rest(self):
        book = two_book((1, 1), shop=house("shop", age=9, rest=4), mill=house("mill", age=5))
        self.assert_walked(
            book, ["buy a 3 ann tea 9", "buy b 2 dan tea 4"], 7, earned={"a": self.A, "b": ("buy", "dan", 2, 4)},
            ends=[("b", "lapsed", "dan", "", 7, 4), ("a", "lapsed", "ann", "", 7, 9)],
        )

    def test_age_and_rest_of_one_purse_on_one_morning(self):
        self.assert_walked(
            shop_book(age=6, rest=4), ["buy a 3 ann tea 9", "buy b 1 ann tea 4"], 7,
            earned={"a": self.A, "b": ("buy", "ann", 1, 4)},
            ends=[("b", "lapsed", "ann", "", 7, 4), ("a", "lapsed", "ann", "", 7, 9)],
        )

    def test_debts_do_not_lapse(self):
        self.assert_walked(
            shop_book(age=2, rest=3), ["spend s 2 ann 6"], 30, debts={"ann": [("s", "", 6)]},
            owed=[("s", "ann", "", 2, 6)],
        )


class Givings(WalkTestCase):
    BUYS = ["buy a 1 ann tea 5", "buy b 2 ann tea 6"]
    EARNED = {"a": ("buy", "ann", 1, 5), "b": ("buy", "ann", 2, 6)}

    def test_the_eldest_go_with_their_born_and_source(self):
        self.assert_walked(
            shop_book(), self.BUYS + ["give g 4 ann bob 3"], 4, earned=self.EARNED,
            rows={"ann": [(1, "a", "", 2), (2, "b", "", 6)], "bob": [(1, "a", "", 3)]},
        )
        self.assert_walked(
            shop_book(), self.BUYS + ["give g 4 ann bob 9"], 4, earned=self.EARNED,
            rows={"ann": [(2, "b", "", 2)], "bob": [(1, "a", "", 5), (2, "b", "", 4)]},
        )

    def test_all_and_more_than_there_are(self):
        for points in (11, 12, MOST):
            self.assert_walked(
                shop_book(), self.BUYS + [f"give g 4 ann bob {points}"], 4, earned=self.EARNED,
                rows={"bob": [(1, "a", "", 5), (2, "b", "", 6)]},
            )

    def test_none_where_there_are_none(self):
        self.assert_walked(shop_book(), ["give g 4 ann bob 9"], 4)

    def test_what_is_given_on_in_parts_lies_as_one_pile(self):
        self.assert_walked(
            shop_book(), self.BUYS + ["give g 4 ann bob 2", "give h 5 ann bob 2", "give i 6 bob ann 1",
                                      "give j 7 bob cid 1"], 7, earned=self.EARNED,
            rows={"ann": [(1, "a", "", 2), (2, "b", "", 6)], "bob": [(1, "a", "", 2)], "cid": [(1, "a", "", 1)]},
        )

    def test_own_points_alone(self):
        self.assert_walked(
            shop_book(), ["buy a 1 ann tea 5", "buy b 2 bob tea 2", "lend l 3 ann bob 4 30", "give g 4 bob cid 5"], 4,
            earned={"a": ("buy", "ann", 1, 5), "b": ("buy", "bob", 2, 2)},
            rows={"ann": [(1, "a", "", 1)], "bob": [(1, "a", "l", 4)], "cid": [(2, "b", "", 2)]},
        )

    def test_points_that_came_back_are_own_points(self):
        self.assert_walked(
            shop_book(), ["buy a 1 ann tea 5", "lend l 1 ann bob 5 4", "give g 4 ann cid 3"], 4,
            earned={"a": ("buy", "ann", 1, 5)}, rows={"ann": [(1, "a", "", 2)], "cid": [(1, "a", "", 3)]},
        )


class Lendings(WalkTestCase):
    A = ("buy", "ann", 1, 9)
    BUY = "buy a 1 ann tea 9"

    def test_born_source_and_mark(self):
        self.assert_walked(
            shop_book(), [self.BUY, "buy b 2 ann tea 3", "lend l 5 ann bob 10 8"], 7,
            rows={"ann": [(2, "b", "", 2)], "bob": [(1, "a", "l", 9), (2, "b", "l", 1)]},
            earned={"a": self.A, "b": ("buy", "ann", 2, 3)},
        )

    def test_points_that_come_back(self):
        self.assert_walked(
            shop_book(), [self.BUY, "buy b 2 ann tea 3", "lend l 5 ann bob 10 8"], 8,
            rows={"ann": [(1, "a", "", 9), (2, "b", "", 3)]}, earned={"a": self.A, "b": ("buy", "ann", 2, 3)},
        )

    def test_the_day_ahead_of_the_end_and_the_end(self):
        texts = [self.BUY, "lend l 5 ann bob 4 6"]
        self.assert_walked(
            shop_book(), texts, 5, rows={"ann": [(1, "a", "", 5)], "bob": [(1, "a", "l", 4)]}, earned={"a": self.A}
        )
        for day in (6, 7, MOST):
            self.assert_walked(shop_book(), texts, day, rows={"ann": [(1, "a", "", 9)]}, earned={"a": self.A})

    def test_a_far_end(self):
        texts = [self.BUY, f"lend l 5 ann bob 4 {MOST}"]
        self.assert_rows(shop_book(), texts, MOST - 1, {"ann": [(1, "a", "", 5)], "bob": [(1, "a", "l", 4)]})
        self.assert_rows(shop_book(), texts, MOST, {"ann": [(1, "a", "", 9)]})

    def test_own_points_alone(self):
        self.assert_walked(
            shop_book(), [self.BUY, "buy b 2 bob tea 2", "lend l 3 ann bob 4 30", "lend m 4 bob cid 5 20"], 4,
            earned={"a": self.A, "b": ("buy", "bob", 2, 2)},
            rows={"ann": [(1, "a", "", 5)], "bob": [(1, "a", "l", 4)], "cid": [(2, "b", "m", 2)]},
        )

    def test_as_many_as_there_are(self):
        texts = [self.BUY, "lend l 3 ann bob 12 6", "spend s 4 bob 5"]
        spent = ("a", "spent", "bob", "s", 4, 5)
        self.assert_walked(shop_book(), texts, 5, rows={"bob": [(1, "a", "l", 4)]}, earned={"a": self.A}, ends=[spent])
        self.assert_walked(
            shop_book(), texts, 6, rows={"ann": [(1, "a", "", 4)]}, debts={"bob": [("l", "ann", 5)]},
            earned={"a": self.A}, ends=[spent], owed=[("l", "bob", "ann", 6, 5)],
        )

    def test_one_that_drew_nothing(self):
        for day in (5, 6, 30):
            self.assert_walked(shop_book(), ["lend l 3 ann bob 12 6"], day)

    def test_with_some_points_spent(self):
        self.assert_walked(
            shop_book(), [self.BUY, "lend l 3 ann bob 6 8", "spend s 4 bob 2"], 8, rows={"ann": [(1, "a", "", 7)]},
            debts={"bob": [("l", "ann", 2)]}, earned={"a": self.A}, ends=[("a", "spent", "bob", "s", 4, 2)],
            owed=[("l", "bob", "ann", 8, 2)],
        )

    def test_with_all_points_spent(self):
        self.assert_walked(
            shop_book(), [self.BUY, "lend l 3 ann bob 6 8", "spend s 4 bob 6"], 8, rows={"ann": [(1, "a", "", 3)]},
            debts={"bob": [("l", "ann", 6)]}, earned={"a": self.A}, ends=[("a", "spent", "bob", "s", 4, 6)],
            owed=[("l", "bob", "ann", 8, 6)],
        )

    def test_no_debt_ahead_of_the_end(self):
        self.assert_walked(
            shop_book(), [self.BUY, "lend l 3 ann bob 6 8", "spend s 4 bob 6"], 7, rows={"ann": [(1, "a", "", 3)]},
            earned={"a": self.A}, ends=[("a", "spent", "bob", "s", 4, 6)],
        )

    def test_with_some_points_lapsed(self):
        self.assert_walked(
            shop_book(age=6), [self.BUY, "buy b 3 ann tea 4", "lend l 3 ann bob 11 8"], 8,
            rows={"ann": [(3, "b", "", 4)]}, earned={"a": self.A, "b": ("buy", "ann", 3, 4)},
            ends=[("a", "lapsed", "bob", "", 7, 9)],
        )

    def test_with_some_points_spent_and_some_lapsed(self):
        self.assert_walked(
            shop_book(age=6), [self.BUY, "buy b 3 ann tea 4", "lend l 3 ann bob 11 8", "spend s 4 bob 3",
                               "spend t 7 bob 1"], 8,
            rows={"ann": [(3, "b", "", 3)]}, debts={"bob": [("l", "ann", 4)]},
            earned={"a": self.A, "b": ("buy", "ann", 3, 4)},
            ends=[
                ("a", "spent", "bob", "s", 4, 3), ("a", "lapsed", "bob", "", 7, 6), ("b", "spent", "bob", "t", 7, 1)
            ],
            owed=[("l", "bob", "ann", 8, 4)],
        )

    def test_with_all_points_lapsed(self):
        self.assert_walked(
            shop_book(age=6), [self.BUY, "lend l 3 ann bob 9 8"], 8, earned={"a": self.A},
            ends=[("a", "lapsed", "bob", "", 7, 9)],
        )

    def test_what_lapses_is_counted_by_its_mark(self):
        self.assert_walked(
            shop_book(age=6),
            [self.BUY, "give g 2 ann bob 2", "lend l 3 ann bob 3 9", "lend m 4 ann bob 4 8", "spend s 5 bob 6"], 9,
            debts={"bob": [("m", "ann", 1), ("l", "ann", 3)]}, earned={"a": self.A},
            ends=[
                ("a", "spent", "bob", "s", 5, 2), ("a", "spent", "bob", "s", 5, 3), ("a", "spent", "bob", "s", 5, 1),
                ("a", "lapsed", "bob", "", 7, 3),
            ],
            owed=[("m", "bob", "ann", 8, 1), ("l", "bob", "ann", 9, 3)],
        )

    def test_lapsing_on_the_morning_of_the_end_comes_behind_it(self):
        self.assert_walked(
            shop_book(age=6), [self.BUY, "lend l 3 ann bob 4 7"], 7, earned={"a": self.A},
            ends=[("a", "lapsed", "ann", "", 7, 9)],
        )

    def test_a_deed_on_the_day_of_the_end_finds_the_points_back(self):
        self.assert_walked(
            shop_book(), [self.BUY, "lend l 3 ann bob 9 7", "spend b 7 ann 8", "spend c 7 bob 1"], 7,
            rows={"ann": [(1, "a", "", 1)]}, debts={"bob": [("c", "", 1)]}, earned={"a": self.A},
            ends=[("a", "spent", "ann", "b", 7, 8)], owed=[("c", "bob", "", 7, 1)],
        )

    def test_the_debt_is_paid_as_a_pile_of_that_day(self):
        texts = [self.BUY, "lend l 3 ann bob 6 8", "spend s 4 bob 6", "buy b 9 bob tea 2", "buy c 11 bob tea 7"]
        spent = ("a", "spent", "bob", "s", 4, 6)
        self.assert_walked(
            shop_book(), texts, 10, rows={"ann": [(1, "a", "", 3), (9, "b", "", 2)]},
            debts={"bob": [("l", "ann", 4)]}, earned={"a": self.A, "b": ("buy", "bob", 9, 2)}, ends=[spent],
            owed=[("l", "bob", "ann", 8, 6)],
        )
        self.assert_walked(
            shop_book(), texts, 11,
            rows={"ann": [(1, "a", "", 3), (9, "b", "", 2), (11, "c", "", 4)], "bob": [(11, "c", "", 3)]},
            earned={"a": self.A, "b": ("buy", "bob", 9, 2), "c": ("buy", "bob", 11, 7)}, ends=[spent],
            owed=[("l", "bob", "ann", 8, 6)],
        )

    def test_debts_to_the_house_and_to_purses_are_paid_in_their_order(self):
        self.assert_walked(
            shop_book(),
            [self.BUY, "buy b 1 cid tea 5", "lend m 2 ann bob 3 6", "lend l 2 cid bob 2 5", "spend s 3 bob 9",
             "spend t 5 bob 1", "buy c 7 bob tea 10"], 7,
            rows={"ann": [(1, "a", "", 6), (7, "c", "", 3)], "cid": [(1, "b", "", 3), (7, "c", "", 2)]},
            earned={"a": self.A, "b": ("buy", "cid", 1, 5), "c": ("buy", "bob", 7, 10)},
            ends=[
                ("a", "spent", "bob", "s", 3, 3), ("b", "spent", "bob", "s", 3, 2), ("c", "paid", "bob", "s", 7, 4),
                ("c", "paid", "bob", "t", 7, 1),
            ],
            owed=[
                ("s", "bob", "", 3, 4), ("l", "bob", "cid", 5, 2), ("t", "bob", "", 5, 1), ("m", "bob", "ann", 6, 3)
            ],
        )

    def test_two_debts_to_one_purse_are_paid_as_one_pile(self):
        self.assert_walked(
            shop_book(), [self.BUY, "lend l 2 ann bob 2 5", "lend m 2 ann bob 3 6", "spend s 3 bob 5",
                          "buy b 7 bob tea 5"], 7,
            rows={"ann": [(1, "a", "", 4), (7, "b", "", 5)]}, earned={"a": self.A, "b": ("buy", "bob", 7, 5)},
            ends=[("a", "spent", "bob", "s", 3, 2), ("a", "spent", "bob", "s", 3, 3)],
            owed=[("l", "bob", "ann", 5, 2), ("m", "bob", "ann", 6, 3)],
        )

    def test_several_that_end_on_one_day_by_their_refs(self):
        self.assert_walked(
            shop_book(),
            [self.BUY, "lend z 2 ann bob 2 8", "lend m 3 ann cid 3 8", "lend b 4 ann bob 1 8", "spend s 5 bob 3",
             "spend t 5 cid 1"], 8,
            rows={"ann": [(1, "a", "", 5)]},
            debts={"bob": [("b", "ann", 1), ("z", "ann", 2)], "cid": [("m", "ann", 1)]}, earned={"a": self.A},
            ends=[
                ("a", "spent", "bob", "s", 5, 1), ("a", "spent", "bob", "s", 5, 2), ("a", "spent", "cid", "t", 5, 1)
            ],
            owed=[("b", "bob", "ann", 8, 1), ("m", "cid", "ann", 8, 1), ("z", "bob", "ann", 8, 2)],
        )

    def test_several_at_once_keep_their_own_marks(self):
        texts = [
            self.BUY, "buy b 2 bob tea 5", "lend l 3 ann bob 4 6", "lend m 3 ann bob 2 8", "lend n 3 bob ann 5 6",
        ]
        earned = {"a": self.A, "b": ("buy", "bob", 2, 5)}
        self.assert_walked(
            shop_book(), texts, 5, earned=earned,
            rows={"ann": [(1, "a", "", 3), (2, "b", "n", 5)], "bob": [(1, "a", "l", 4), (1, "a", "m", 2)]},
        )
        self.assert_walked(
            shop_book(), texts, 6, earned=earned,
            rows={"ann": [(1, "a", "", 7)], "bob": [(1, "a", "m", 2), (2, "b", "", 5)]},
        )
        self.assert_walked(
            shop_book(), texts, 8, earned=earned, rows={"ann": [(1, "a", "", 9)], "bob": [(2, "b", "", 5)]}
        )

    def test_what_comes_back_is_lent_again_and_comes_back_again(self):
        texts = [self.BUY, "lend l 2 ann bob 9 4", "lend k 4 ann cid 9 6", "lend m 6 ann bob 1 7"]
        self.assert_rows(shop_book(), texts, 3, {"bob": [(1, "a", "l", 9)]})
        self.assert_rows(shop_book(), texts, 5, {"cid": [(1, "a", "k", 9)]})
        self.assert_rows(shop_book(), texts, 6, {"ann": [(1, "a", "", 8)], "bob": [(1, "a", "m", 1)]})
        self.assert_rows(shop_book(), texts, 7, {"ann": [(1, "a", "", 9)]})


class Changes(WalkTestCase):
    A = ("buy", "ann", 1, 99)
    BUY = "buy a 1 ann tea 99"

    def test_one(self):
        self.assert_walked(
            two_book((2, 1)), [self.BUY, "change c 3 ann dan 10"], 4,
            rows={"ann": [(1, "a", "", 89)], "dan": [(3, "c", "", 20)]},
            earned={"a": self.A, "c": ("change", "dan", 3, 20)}, ends=[("a", "changed", "ann", "c", 3, 10)],
            odds={("ann", "dan"): 0},
        )

    def test_the_odd_part_counts_at_the_next_change(self):
        self.assert_walked(
            two_book((2, 7)), [self.BUY, "change c 3 ann dan 5", "change b 4 ann dan 5", "change d 5 ann dan 4"], 5,
            rows={"ann": [(1, "a", "", 85)], "dan": [(3, "c", "", 1), (4, "b", "", 1), (5, "d", "", 2)]},
            earned={
                "a": self.A, "c": ("change", "dan", 3, 1), "b": ("change", "dan", 4, 1), "d": ("change", "dan", 5, 2)
            },
            ends=[
                ("a", "changed", "ann", "c", 3, 5), ("a", "changed", "ann", "b", 4, 5),
                ("a", "changed", "ann", "d", 5, 4),
            ],
            odds={("ann", "dan"): 0},
        )

    def test_each_pair_has_an_odd_part_of_its_own(self):
        self.assert_walked(
            two_book((1, 3), (1, 4)),
            [self.BUY, "buy b 1 bob tea 9", "change c 2 ann dan 8", "change d 3 bob dan 5", "change e 4 ann eve 4",
             "change f 5 ann dan 1", "change g 6 dan ann 3", "change h 7 dan ann 1", "change i 8 ann dan 1"], 9,
            rows={"ann": [(1, "a", "", 85), (7, "h", "", 1)], "bob": [(1, "b", "", 4)], "eve": [(4, "e", "", 1)]},
            earned={
                "a": self.A, "b": ("buy", "bob", 1, 9), "c": ("change", "dan", 2, 2), "d": ("change", "dan", 3, 1),
                "e": ("change", "eve", 4, 1), "f": ("change", "dan", 5, 1), "g": ("change", "ann", 6, 0),
                "h": ("change", "ann", 7, 1), "i": ("change", "dan", 8, 0),
            },
            ends=[
                ("a", "changed", "ann", "c", 2, 8), ("b", "changed", "bob", "d", 3, 5),
                ("a", "changed", "ann", "e", 4, 4), ("a", "changed", "ann", "f", 5, 1),
                ("c", "changed", "dan", "g", 6, 2), ("d", "changed", "dan", "g", 6, 1),
                ("f", "changed", "dan", "h", 7, 1), ("a", "changed", "ann", "i", 8, 1),
            ],
            odds={("ann", "dan"): 1, ("bob", "dan"): 2, ("ann", "eve"): 1, ("dan", "ann"): 0},
        )

    def test_one_that_brings_nothing(self):
        self.assert_walked(
            two_book((1, 11)), [self.BUY, "change c 3 ann dan 10"], 4, rows={"ann": [(1, "a", "", 89)]},
            earned={"a": self.A, "c": ("change", "dan", 3, 0)}, ends=[("a", "changed", "ann", "c", 3, 10)],
            odds={("ann", "dan"): 10},
        )
        self.assert_walked(
            two_book((0, 3)), [self.BUY, "change c 3 ann dan 10"], 4, rows={"ann": [(1, "a", "", 89)]},
            earned={"a": self.A, "c": ("change", "dan", 3, 0)}, ends=[("a", "changed", "ann", "c", 3, 10)],
            odds={("ann", "dan"): 0},
        )

    def test_as_many_as_there_are(self):
        self.assert_walked(
            two_book((1, 2)), ["buy a 1 ann tea 5", "change c 3 ann dan 10", "change d 4 ann dan 1"], 4,
            rows={"dan": [(3, "c", "", 2)]},
            earned={"a": ("buy", "ann", 1, 5), "c": ("change", "dan", 3, 2), "d": ("change", "dan", 4, 0)},
            ends=[("a", "changed", "ann", "c", 3, 5)], odds={("ann", "dan"): 1},
        )

    def test_none_where_there_are_none(self):
        self.assert_walked(
            two_book((5, 2)), ["change c 3 ann dan 10"], 4, earned={"c": ("change", "dan", 3, 0)},
            odds={("ann", "dan"): 0},
        )

    def test_own_points_alone_the_eldest_first(self):
        self.assert_walked(
            two_book((1, 1)),
            ["buy b 2 ann tea 4", "buy a 3 ann tea 5", "buy c 1 bob tea 6", "lend l 4 bob ann 6 30",
             "change d 5 ann dan 7"], 6,
            rows={"ann": [(1, "c", "l", 6), (3, "a", "", 2)], "dan": [(5, "d", "", 7)]},
            earned={
                "b": ("buy", "ann", 2, 4), "a": ("buy", "ann", 3, 5), "c": ("buy", "bob", 1, 6),
                "d": ("change", "dan", 5, 7),
            },
            ends=[("b", "changed", "ann", "d", 5, 4), ("a", "changed", "ann", "d", 5, 3)], odds={("ann", "dan"): 0},
        )

    def test_what_it_brings_is_a_source_like_any(self):
        book = two_book((1, 1), shop=house("shop", age=9), mill=house("mill", age=4))
        self.assert_walked(
            book,
            [self.BUY, "change c 8 ann dan 10", "buy d 8 dan tea 2", "spend s 9 dan 3 c", "give g 9 dan eve 4"], 12,
            earned={"a": self.A, "c": ("change", "dan", 8, 10), "d": ("buy", "dan", 8, 2)},
            ends=[
                ("a", "changed", "ann", "c", 8, 10), ("c", "spent", "dan", "s", 9, 3),
                ("a", "lapsed", "ann", "", 10, 89), ("c", "lapsed", "dan", "", 12, 3),
                ("d", "lapsed", "dan", "", 12, 2), ("c", "lapsed", "eve", "", 12, 4),
            ],
            odds={("ann", "dan"): 0},
        )

    def test_great_numbers(self):
        self.assert_walked(
            two_book((MOST, MOST - 1)), [f"buy a 1 ann tea {MOST}", f"change c 2 ann dan {MOST}"], 2,
            rows={"dan": [(2, "c", "", MOST + 1)]},
            earned={"a": ("buy", "ann", 1, MOST), "c": ("change", "dan", 2, MOST + 1)},
            ends=[("a", "changed", "ann", "c", 2, MOST)], odds={("ann", "dan"): 1},
        )


class TakingsBack(WalkTestCase):
    A = ("buy", "ann", 1, 9)
    BUY = "buy a 1 ann tea 9"

    def test_a_buy_whole(self):
        self.assert_walked(
            shop_book(), [self.BUY, "buy b 1 ann tea 2", "back r 3 a"], 4, rows={"ann": [(1, "b", "", 2)]},
            earned={"a": self.A, "b": ("buy", "ann", 1, 2)}, ends=[("a", "taken", "ann", "r", 3, 9)], backs={"a": 3},
        )

    def test_on_the_day_of_the_buy(self):
        self.assert_walked(
            shop_book(), [self.BUY, "back r 1 a"], 1, earned={"a": self.A}, ends=[("a", "taken", "ann", "r", 1, 9)],
            backs={"a": 1},
        )

    def test_not_yet_on_the_day_ahead(self):
        self.assert_walked(
            shop_book(), [self.BUY, "back r 3 a"], 2, rows={"ann": [(1, "a", "", 9)]}, earned={"a": self.A}
        )

    def test_a_buy_partly_spent(self):
        self.assert_walked(
            shop_book(), [self.BUY, "spend s 2 ann 4", "back r 3 a"], 4, debts={"ann": [("r", "", 4)]},
            earned={"a": self.A}, ends=[("a", "spent", "ann", "s", 2, 4), ("a", "taken", "ann", "r", 3, 5)],
            owed=[("r", "ann", "", 3, 4)], backs={"a": 3},
        )

    def test_a_buy_wholly_spent(self):
        self.assert_walked(
            shop_book(), [self.BUY, "buy b 1 ann tea 2", "spend s 2 ann 9", "back r 3 a"], 4,
            rows={"ann": [(1, "b", "", 2)]}, debts={"ann": [("r", "", 9)]},
            earned={"a": self.A, "b": ("buy", "ann", 1, 2)}, ends=[("a", "spent", "ann", "s", 2, 9)],
            owed=[("r", "ann", "", 3, 9)], backs={"a": 3},
        )

    def test_a_buy_that_was_changed(self):
        self.assert_walked(
            two_book((1, 1)), [self.BUY, "change c 2 ann dan 4", "back r 3 a"], 4, rows={"dan": [(2, "c", "", 4)]},
            debts={"ann": [("r", "", 4)]}, earned={"a": self.A, "c": ("change", "dan", 2, 4)},
            ends=[("a", "changed", "ann", "c", 2, 4), ("a", "taken", "ann", "r", 3, 5)],
            owed=[("r", "ann", "", 3, 4)], odds={("ann", "dan"): 0}, backs={"a": 3},
        )

    def test_a_buy_that_paid_debts(self):
        self.assert_walked(
            shop_book(), ["spend s 0 ann 4", self.BUY, "back r 3 a"], 4, debts={"ann": [("r", "", 4)]},
            earned={"a": self.A}, ends=[("a", "paid", "ann", "s", 1, 4), ("a", "taken", "ann", "r", 3, 5)],
            owed=[("s", "ann", "", 0, 4), ("r", "ann", "", 3, 4)], backs={"a": 3},
        )

    def test_a_buy_that_paid_another_purse(self):
        self.assert_walked(
            shop_book(), ["buy b 0 bob tea 4", "lend l 0 bob ann 4 1", "spend s 0 ann 4", self.BUY, "back r 3 a"], 4,
            rows={"bob": [(1, "a", "", 4)]}, debts={"ann": [("r", "", 4)]},
            earned={"a": self.A, "b": ("buy", "bob", 0, 4)},
            ends=[("b", "spent", "ann", "s", 0, 4), ("a", "taken", "ann", "r", 3, 5)],
            owed=[("l", "ann", "bob", 1, 4), ("r", "ann", "", 3, 4)], backs={"a": 3},
        )

    def test_a_buy_given_on(self):
        self.assert_walked(
            shop_book(), [self.BUY, "give g 2 ann bob 4", "back r 3 a"], 4, rows={"bob": [(1, "a", "", 4)]},
            debts={"ann": [("r", "", 4)]}, earned={"a": self.A}, ends=[("a", "taken", "ann", "r", 3, 5)],
            owed=[("r", "ann", "", 3, 4)], backs={"a": 3},
        )

    def test_a_buy_lent(self):
        texts = [self.BUY, "lend l 2 ann bob 4 6", "back r 3 a"]
        taken = ("a", "taken", "ann", "r", 3, 5)
        self.assert_walked(
            shop_book(), texts, 5, rows={"bob": [(1, "a", "l", 4)]}, debts={"ann": [("r", "", 4)]},
            earned={"a": self.A}, ends=[taken], owed=[("r", "ann", "", 3, 4)], backs={"a": 3},
        )
        self.assert_walked(
            shop_book(), texts, 6, rows={"ann": [(1, "a", "", 4)]}, debts={"ann": [("r", "", 4)]},
            earned={"a": self.A}, ends=[taken], owed=[("r", "ann", "", 3, 4)], backs={"a": 3},
        )

    def test_a_buy_whose_points_are_lent_to_its_own_purse(self):
        self.assert_walked(
            shop_book(), [self.BUY, "give g 2 ann bob 4", "lend l 2 bob ann 3 9", "back r 3 a"], 4,
            rows={"ann": [(1, "a", "l", 3)], "bob": [(1, "a", "", 1)]}, debts={"ann": [("r", "", 4)]},
            earned={"a": self.A}, ends=[("a", "taken", "ann", "r", 3, 5)], owed=[("r", "ann", "", 3, 4)],
            backs={"a": 3},
        )

    def test_a_buy_whose_points_were_given_to_and_fro(self):
        self.assert_walked(
            shop_book(), [self.BUY, "give g 2 ann bob 4", "give h 2 bob ann 3", "back r 3 a"], 4,
            rows={"bob": [(1, "a", "", 1)]}, debts={"ann": [("r", "", 1)]}, earned={"a": self.A},
            ends=[("a", "taken", "ann", "r", 3, 8)], owed=[("r", "ann", "", 3, 1)], backs={"a": 3},
        )

    def test_a_buy_that_has_lapsed(self):
        self.assert_walked(
            shop_book(age=5), [self.BUY, "back r 6 a"], 7, earned={"a": self.A},
            ends=[("a", "lapsed", "ann", "", 6, 9)], backs={"a": 6},
        )

    def test_a_buy_that_has_lapsed_wherever(self):
        self.assert_walked(
            shop_book(age=5), [self.BUY, "spend s 2 ann 1", "give g 2 ann bob 2", "lend l 2 ann cid 3 20",
                               "back r 7 a"], 7,
            debts={"ann": [("r", "", 1)]}, earned={"a": self.A},
            ends=[
                ("a", "spent", "ann", "s", 2, 1), ("a", "lapsed", "cid", "", 6, 3), ("a", "lapsed", "ann", "", 6, 3),
                ("a", "lapsed", "bob", "", 6, 2),
            ],
            owed=[("r", "ann", "", 7, 1)], backs={"a": 7},
        )

    def test_a_buy_that_has_lapsed_in_part(self):
        self.assert_walked(
            shop_book(rest=4), [self.BUY, "give g 1 ann bob 2", "lend l 2 ann cid 3 20", "spend s 5 cid 1",
                                "spend t 5 ann 1", "back r 6 a"], 6,
            rows={"cid": [(1, "a", "l", 2)]}, debts={"ann": [("r", "", 4)]}, earned={"a": self.A},
            ends=[
                ("a", "lapsed", "bob", "", 5, 2), ("a", "spent", "cid", "s", 5, 1), ("a", "spent", "ann", "t", 5, 1),
                ("a", "taken", "ann", "r", 6, 3),
            ],
            owed=[("r", "ann", "", 6, 4)], backs={"a": 6},
        )

    def test_what_lapses_later_or_of_other_sources_does_not_count(self):
        self.assert_walked(
            shop_book(age=5), ["buy b 0 ann tea 3", self.BUY, "give g 1 ann bob 6", "back r 5 a"], 6,
            debts={"ann": [("r", "", 3)]}, earned={"a": self.A, "b": ("buy", "ann", 0, 3)},
            ends=[
                ("b", "lapsed", "bob", "", 5, 3), ("a", "taken", "ann", "r", 5, 6), ("a", "lapsed", "bob", "", 6, 3)
            ],
            owed=[("r", "ann", "", 5, 3)], backs={"a": 5},
        )

    def test_twice(self):
        self.assert_walked(
            shop_book(), [self.BUY, "spend s 2 ann 4", "back r 3 a", "back q 4 a", "back t 3 a"], 5,
            debts={"ann": [("r", "", 4)]}, earned={"a": self.A},
            ends=[("a", "spent", "ann", "s", 2, 4), ("a", "taken", "ann", "r", 3, 5)], owed=[("r", "ann", "", 3, 4)],
            backs={"a": 3},
        )

    def test_what_came_back_behind_a_taking_back_is_not_taken_by_a_second_one(self):
        self.assert_rows(
            shop_book(), [self.BUY, "lend l 2 ann bob 4 6", "back r 3 a", "back s 7 a"], 8, {"ann": [(1, "a", "", 4)]}
        )

    def test_a_buy_that_brought_nothing(self):
        self.assert_walked(
            shop_book(), ["buy a 1 ann tea 0", "back r 3 a"], 4, earned={"a": ("buy", "ann", 1, 0)}, backs={"a": 3}
        )

    def test_a_buy_that_was_not_done_ahead(self):
        rows = {"ann": [(1, "a", "", 9)]}
        self.assert_walked(shop_book(), ["buy a 1 ann tea 9", "back r 0 a"], 4, rows=rows, earned={"a": self.A})
        self.assert_walked(
            shop_book(), ["buy s 1 ann tea 9", "back r 1 s"], 4, rows={"ann": [(1, "s", "", 9)]},
            earned={"s": ("buy", "ann", 1, 9)},
        )

    def test_a_buy_of_a_later_day(self):
        self.assert_walked(shop_book(), ["buy a 5 ann tea 9", "back r 3 a"], 4)

    def test_a_buy_that_is_taken_back_ahead_in_vain_and_then_indeed(self):
        self.assert_walked(
            shop_book(), [self.BUY, "back r 0 a", "back s 2 a"], 4, earned={"a": self.A},
            ends=[("a", "taken", "ann", "s", 2, 9)], backs={"a": 2},
        )

    def test_no_buy(self):
        self.assert_walked(shop_book(), ["back r 3 a"], 4)
        self.assert_walked(
            two_book((1, 1)), [self.BUY, "change c 2 ann dan 9", "back r 3 c"], 4, rows={"dan": [(2, "c", "", 9)]},
            earned={"a": self.A, "c": ("change", "dan", 2, 9)}, ends=[("a", "changed", "ann", "c", 2, 9)],
            odds={("ann", "dan"): 0},
        )
        self.assert_walked(
            shop_book(), [self.BUY, "spend s 2 ann 3", "back r 3 s"], 4, rows={"ann": [(1, "a", "", 6)]},
            earned={"a": self.A}, ends=[("a", "spent", "ann", "s", 2, 3)],
        )

    def test_a_cap_counts_what_was_taken_back(self):
        self.assert_walked(
            shop_book(cap=10), [self.BUY, "back b 1 a", "buy c 1 ann tea 5"], 1, rows={"ann": [(1, "c", "", 1)]},
            earned={"a": self.A, "c": ("buy", "ann", 1, 1)}, ends=[("a", "taken", "ann", "b", 1, 9)], backs={"a": 1},
        )

    def test_the_debt_is_paid_like_any(self):
        self.assert_walked(
            shop_book(), [self.BUY, "spend s 2 ann 4", "back r 3 a", "buy b 4 ann tea 6"], 4,
            rows={"ann": [(4, "b", "", 2)]}, earned={"a": self.A, "b": ("buy", "ann", 4, 6)},
            ends=[
                ("a", "spent", "ann", "s", 2, 4), ("a", "taken", "ann", "r", 3, 5), ("b", "paid", "ann", "r", 4, 4)
            ],
            owed=[("r", "ann", "", 3, 4)], backs={"a": 3},
        )

    def test_several_of_several_purses(self):
        self.assert_walked(
            shop_book(), [self.BUY, "buy b 1 bob tea 5", "buy c 1 ann tea 2", "give g 2 bob ann 1", "back r 3 b",
                          "back q 4 c"], 4,
            rows={"ann": [(1, "a", "", 9), (1, "b", "", 1)]}, debts={"bob": [("r", "", 1)]},
            earned={"a": self.A, "b": ("buy", "bob", 1, 5), "c": ("buy", "ann", 1, 2)},
            ends=[("b", "taken", "bob", "r", 3, 4), ("c", "taken", "ann", "q", 4, 2)], owed=[("r", "bob", "", 3, 1)],
            backs={"b": 3, "c": 4},
        )


if __name__ == "__main__":
    unittest.main()
