"""[11], with [1] and [2]: books, the house of a purse, and the rate between two purses."""

import unittest

from pointpurse.books import Book, house_of, rate_of
from pointpurse.errors import BadBook, BadHouse, PurseError
from pointpurse.houses import House

MOST = 999999999999


def house(name):
    return House(name, (1, 1), [], [], [], None, None, None, [], 30, 0)


SHOP = house("shop")
MILL = house("mill")
INN = house("inn")
HOUSES = [SHOP, MILL, INN]
PURSES = [("dan", "mill"), ("ann", "shop"), ("bob", "shop"), ("cid", "inn")]
RATES = [("shop", "mill", 2, 3), ("mill", "shop", 1, 5), ("shop", "inn", 0, 1)]


class Fields(unittest.TestCase):
    def assert_fields(self, book, houses, purses, rates):
        for field, expected in ((book.houses, houses), (book.purses, purses), (book.rates, rates)):
            self.assertIs(type(field), tuple)
            self.assertEqual(field, tuple(expected))

    def test_one_house_alone(self):
        self.assert_fields(Book([SHOP], [], []), [SHOP], [], [])

    def test_one_house_with_purses(self):
        purses = [("bob", "shop"), ("ann", "shop")]
        self.assert_fields(Book([SHOP], purses, []), [SHOP], purses, [])

    def test_several_houses_with_purses_and_rates(self):
        self.assert_fields(Book(HOUSES, PURSES, RATES), HOUSES, PURSES, RATES)

    def test_houses_without_purses_and_rates(self):
        self.assert_fields(Book(HOUSES, [], []), HOUSES, [], [])
        self.assert_fields(Book(HOUSES, [], RATES), HOUSES, [], RATES)
        self.assert_fields(Book(HOUSES, PURSES, []), HOUSES, PURSES, [])

    def test_from_tuples(self):
        self.assert_fields(Book(tuple(HOUSES), tuple(PURSES), tuple(RATES)), HOUSES, PURSES, RATES)

    def test_made_again_of_its_own_fields(self):
        book = Book(HOUSES, PURSES, RATES)
        self.assert_fields(Book(book.houses, book.purses, book.rates), HOUSES, PURSES, RATES)

    def test_the_houses_are_those_handed_in(self):
        book = Book(HOUSES, PURSES, RATES)
        for kept, handed in zip(book.houses, HOUSES, strict=True):
            self.assertIs(kept, handed)

    def test_the_lists_handed_in_stay_as_they_were(self):
        houses, purses, rates = list(HOUSES), list(PURSES), list(RATES)
        Book(houses, purses, rates)
        self.assertEqual((houses, purses, rates), (HOUSES, PURSES, RATES))

    def test_the_fields_stay_whatever_becomes_of_the_lists_handed_in(self):
        houses, purses, rates = list(HOUSES), list(PURSES), list(RATES)
        book = Book(houses, purses, rates)
        houses.reverse()
        purses.clear()
        rates[0] = ("shop", "mill", 9, 9)
        self.assert_fields(book, HOUSES, PURSES, RATES)
        self.assertIs(house_of(book, "ann"), SHOP)
        self.assertEqual(rate_of(book, "ann", "dan"), (2, 3))

    def test_a_purse_may_be_called_like_a_house(self):
        book = Book([SHOP, MILL], [("shop", "mill"), ("mill", "shop")], [])
        self.assertIs(house_of(book, "shop"), MILL)
        self.assertIs(house_of(book, "mill"), SHOP)


class HouseOf(unittest.TestCase):
    def test_of_each_purse(self):
        book = Book(HOUSES, PURSES, RATES)
        self.assertIs(house_of(book, "dan"), MILL)
        self.assertIs(house_of(book, "ann"), SHOP)
        self.assertIs(house_of(book, "bob"), SHOP)
        self.assertIs(house_of(book, "cid"), INN)

    def test_of_one_house(self):
        self.assertIs(house_of(Book([INN], [("ann", "inn")], []), "ann"), INN)


class RateOf(unittest.TestCase):
    def test_of_each_two_purses(self):
        book = Book(HOUSES, PURSES, RATES)
        rates = {
            ("ann", "dan"): (2, 3), ("bob", "dan"): (2, 3), ("dan", "ann"): (1, 5), ("dan", "bob"): (1, 5),
            ("ann", "cid"): (0, 1), ("bob", "cid"): (0, 1),
        }
        purses = [purse for purse, name in PURSES]
        for purse in purses:
            for other in purses:
                with self.subTest(purse=purse, other=other):
                    self.assertEqual(rate_of(book, purse, other), rates.get((purse, other)))

    def test_it_is_a_pair(self):
        self.assertIs(type(rate_of(Book(HOUSES, PURSES, RATES), "ann", "dan")), tuple)

    def test_none_where_no_rate_is_told(self):
        book = Book(HOUSES, PURSES, [("shop", "mill", 2, 3)])
        self.assertIsNone(rate_of(book, "dan", "ann"))
        self.assertIsNone(rate_of(book, "ann", "cid"))
        self.assertIsNone(rate_of(book, "cid", "dan"))

    def test_none_within_one_house(self):
        self.assertIsNone(rate_of(Book(HOUSES, PURSES, RATES), "ann", "bob"))
        self.assertIsNone(rate_of(Book(HOUSES, PURSES, RATES), "bob", "ann"))

    def test_the_edges_of_top_and_bottom(self):
        for pair in ((0, 1), (1, 1), (0, MOST), (MOST, 1), (MOST, MOST)):
            book = Book(HOUSES, PURSES, [("shop", "mill") + pair])
            self.assertEqual(rate_of(book, "ann", "dan"), pair)

    def test_it_is_not_shortened(self):
        self.assertEqual(rate_of(Book(HOUSES, PURSES, [("shop", "mill", 4, 6)]), "ann", "dan"), (4, 6))


class Refusals(unittest.TestCase):
    def assert_refused(self, houses, purses, rates):
        for form in (list, tuple):
            handed = (form(houses), form(purses), form(rates))
            with self.subTest(handed=handed):
                with self.assertRaises(BadBook) as caught:
                    Book(*handed)
                self.assertIs(type(caught.exception), BadBook)
                self.assertEqual(handed, (form(houses), form(purses), form(rates)))

    def test_the_class_stands_straight_under_purse_error(self):
        self.assertEqual(BadBook.__bases__, (PurseError,))
        self.assertFalse(issubclass(BadBook, BadHouse))

    def test_no_house(self):
        self.assert_refused([], [], [])
        self.assert_refused([], PURSES, [])

    def test_two_houses_of_one_name(self):
        self.assert_refused([SHOP, house("shop")], [], [])
        self.assert_refused([SHOP, SHOP], [], [])
        self.assert_refused([SHOP, MILL, INN, house("mill")], PURSES, RATES)

    def test_a_purse_that_is_no_name(self):
        for purse in ("", "Ann", "ann1", "an n", " ann", "ninechars", "a-b", "-", "ann\n"):
            self.assert_refused([SHOP], [(purse, "shop")], [])
            self.assert_refused(HOUSES, PURSES + [(purse, "shop")], RATES)

    def test_names_of_one_and_of_eight_letters(self):
        book = Book([SHOP], [("a", "shop"), ("eightsig", "shop")], [])
        self.assertEqual(book.purses, (("a", "shop"), ("eightsig", "shop")))

    def test_a_purse_told_twice(self):
        self.assert_refused([SHOP], [("ann", "shop"), ("ann", "shop")], [])
        self.assert_refused(HOUSES, PURSES + [("dan", "mill")], RATES)

    def test_a_purse_told_twice_of_two_houses(self):
        self.assert_refused(HOUSES, [("ann", "shop"), ("bob", "shop"), ("ann", "mill")], [])

    def test_a_purse_of_no_house(self):
        for name in ("barn", "", "ann", "Shop", "sho"):
            self.assert_refused([SHOP], [("ann", name)], [])
            self.assert_refused(HOUSES, PURSES + [("eve", name)], RATES)

    def test_a_rate_from_no_house(self):
        self.assert_refused(HOUSES, PURSES, [("barn", "shop", 1, 1)])
        self.assert_refused(HOUSES, PURSES, RATES + [("ann", "shop", 1, 1)])

    def test_a_rate_to_no_house(self):
        self.assert_refused(HOUSES, PURSES, [("shop", "barn", 1, 1)])
        self.assert_refused(HOUSES, PURSES, RATES + [("shop", "dan", 1, 1)])

    def test_a_rate_from_a_house_to_itself(self):
        self.assert_refused([SHOP], [], [("shop", "shop", 1, 1)])
        self.assert_refused(HOUSES, PURSES, RATES + [("inn", "inn", 1, 1)])
        self.assert_refused(HOUSES, PURSES, [("barn", "barn", 1, 1)])

    def test_a_top_below_nought(self):
        for top in (-1, -MOST):
            self.assert_refused(HOUSES, PURSES, [("shop", "mill", top, 1)])
            self.assert_refused(HOUSES, PURSES, RATES + [("inn", "mill", top, 1)])

    def test_a_bottom_below_one(self):
        for bottom in (0, -1, -MOST):
            self.assert_refused(HOUSES, PURSES, [("shop", "mill", 1, bottom)])
            self.assert_refused(HOUSES, PURSES, RATES + [("inn", "mill", 1, bottom)])

    def test_two_rates_with_the_same_from_and_to(self):
        self.assert_refused(HOUSES, PURSES, [("shop", "mill", 2, 3), ("shop", "mill", 2, 3)])
        self.assert_refused(HOUSES, PURSES, RATES + [("mill", "shop", 4, 7)])

    def test_two_rates_there_and_back_are_none_such(self):
        book = Book(HOUSES, PURSES, [("shop", "mill", 2, 3), ("mill", "shop", 2, 3)])
        self.assertEqual(book.rates, (("shop", "mill", 2, 3), ("mill", "shop", 2, 3)))

    def test_two_rates_with_the_same_from_or_the_same_to_are_none_such(self):
        rates = [("shop", "mill", 2, 3), ("shop", "inn", 2, 3), ("mill", "inn", 2, 3)]
        self.assertEqual(Book(HOUSES, PURSES, rates).rates, tuple(rates))


if __name__ == "__main__":
    unittest.main()
