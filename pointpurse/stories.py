"""Stories: where the points of each source are, what a house's sources come to, and what is left of a debt."""

from pointpurse.books import house_of
from pointpurse.errors import NoDeed

# What is summed of a house: first what its sources brought, then where those points are.
SUMMED = ("brought", "left", "spent", "lapsed", "taken", "paid", "changed")


def places_of(state):
    """Where all points are, like the ends of a State: those that are no more, and those that are left in a row."""
    places = list(state.ends)
    for purse, row in state.rows.items():
        places.extend([(source, "left", purse, mark, born, points) for born, source, mark, points in row])
    return places


def story(state, source):
    """Where the points that a source brought are: a sorted list of tuples (what, purse, ref, day, points)."""
    if source not in state.earned:
        raise NoDeed("there is no such source")
    many = {}
    for place in places_of(state):
        if place[0] == source:
            alike = place[1:5]
            many[alike] = many.get(alike, 0) + place[5]
    return [alike + (many[alike],) for alike in sorted(many)]


def sums(state, book, house):
    """The numbers of points of all sources that brought them to purses of a house, by the words of SUMMED."""
    brought = {}
    for source, told in state.earned.items():
        if house_of(book, told[1]).name == house:
            brought[source] = told[3]
    numbers = dict([(word, 0) for word in SUMMED])
    numbers["brought"] = sum(brought.values())
    for source, what, purse, ref, day, points in places_of(state):
        if source in brought:
            numbers[what] = numbers[what] + points
    return numbers


def debt_of(state, ref):
    """The tuple (purse, to, came, left) of the debt that came by a ref: how much it was and is."""
    for deed, purse, to, day, came in state.owed:
        if deed == ref:
            left = sum([debt[2] for debt in state.debts[purse] if debt[0] == ref])
            return (purse, to, came, left)
    raise NoDeed("no debt came by this ref")
