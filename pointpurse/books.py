"""Books: which houses there are, which purses they have, and what their points are worth to one another."""

from pointpurse.checks import are_unlike, is_number
from pointpurse.errors import BadBook
from pointpurse.houses import is_name


def demand(holds, words):
    """Refuse a book for which something that must hold doesn't."""
    if not holds:
        raise BadBook(words)


def check_purses(purses, names):
    """Refuse purses that are no unlike names, or of no house with one of these names."""
    for purse, name in purses:
        demand(is_name(purse), "a purse is no name")
        demand(name in names, "a purse is of a house that is not there")
    demand(are_unlike([purse for purse, name in purses]), "a purse is told twice")


def check_rates(rates, names):
    """Refuse rates that are not between two houses with these names, or whose numbers are too low."""
    for start, goal, top, bottom in rates:
        demand(start in names and goal in names, "a rate is of a house that is not there")
        demand(start != goal, "a rate goes from a house to itself")
        demand(is_number(top, 0), "a rate's top is too low")
        demand(is_number(bottom, 1), "a rate's bottom is too low")
    demand(are_unlike([(rate[0], rate[1]) for rate in rates]), "two rates go from one house to the same other one")


class Book:
    """Houses, purses and rates that fit together; the lists are kept as tuples."""

    def __init__(self, houses, purses, rates):
        names = [house.name for house in houses]
        demand(len(names) > 0, "there is no house")
        demand(are_unlike(names), "two houses have one name")
        check_purses(purses, names)
        check_rates(rates, names)
        self.houses = tuple(houses)
        self.purses = tuple(purses)
        self.rates = tuple(rates)


def has_purse(book, purse):
    """Whether a purse is the book's."""
    return purse in dict(book.purses)


def house_of(book, purse):
    """The House of a purse."""
    name = dict(book.purses)[purse]
    return [house for house in book.houses if house.name == name][0]


def rate_of(book, purse, other):
    """The pair (top, bottom) from the one purse's house to the other's, None where no rate is told."""
    start = house_of(book, purse).name
    goal = house_of(book, other).name
    for rate in book.rates:
        if rate[0] == start and rate[1] == goal:
            return (rate[2], rate[3])
    return None
