"""The interface: each name is there, with the arguments that the document tells."""

import importlib
import inspect
import unittest

from pointpurse.books import Book
from pointpurse.houses import House
from pointpurse.ledger import Ledger
from pointpurse.walk import State, walked

CALLED = {
    "houses": {
        "is_name": "text", "House": "name share kinds steps doubles cap age rest ranks span grace",
    },
    "earning": {
        "weighed": "house lines", "day_factor": "house day", "extra_of": "house lines", "brings": "house day lines",
    },
    "deeds": {"checked_deed": "deed"},
    "deedtext": {"deed_text": "deed", "read_deed": "text"},
    "piles": {
        "laid": "row piles", "sum_of": "row own", "drawn": "row points first own", "aged": "row age day",
    },
    "debts": {"paid_off": "debts points"},
    "books": {"Book": "houses purses rates", "house_of": "book purse", "rate_of": "book purse other"},
    "walk": {"walked": "book deeds day"},
    "ledger": {"Ledger": "book"},
    "stories": {"story": "state source", "sums": "state book house", "debt_of": "state ref"},
    "ranks": {
        "counted": "state book purse day", "plain_rank": "state book purse day", "rank": "state book purse day",
        "title_of": "book purse rank", "next_fall": "state book purse", "next_lapse": "state book purse",
    },
    "session": {"statement": "state book purse", "answers": "text"},
}
METHODS = {
    "tell": "deed told", "tellings": "", "settled": "many", "state": "day", "state_known": "day known",
}


def arguments_of(called):
    return list(inspect.signature(called).parameters)


class Interface(unittest.TestCase):
    HOUSE = House("shop", (1, 1), [], [], [], None, None, None, [], 30, 0)

    def test_functions_and_classes(self):
        for file, names in CALLED.items():
            module = importlib.import_module("pointpurse." + file)
            for name, arguments in names.items():
                with self.subTest(file=file, name=name):
                    self.assertEqual(arguments_of(getattr(module, name)), arguments.split())

    def test_the_methods_of_a_ledger(self):
        ledger = Ledger(Book([self.HOUSE], [], []))
        for name, arguments in METHODS.items():
            with self.subTest(name=name):
                self.assertEqual(arguments_of(getattr(ledger, name)), arguments.split())

    def test_fields(self):
        book = Book([self.HOUSE], [], [])
        state = walked(book, [], 3)
        self.assertIs(type(state), State)
        for thing, fields in (
            (self.HOUSE, CALLED["houses"]["House"]), (book, "houses purses rates"), (Ledger(book), "book"),
            (state, "day rows debts earned ends owed odds backs"),
        ):
            for field in fields.split():
                with self.subTest(thing=type(thing).__name__, field=field):
                    self.assertTrue(hasattr(thing, field))


if __name__ == "__main__":
    unittest.main()
