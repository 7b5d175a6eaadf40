"""Ranks by the buys of a span of days, and what comes of itself: when a rank falls, when points lapse."""

from pointpurse.books import house_of
from pointpurse.walk import morning, next_morning, twin_of


def spells_of(state, book, purse):
    """The tuples (first, gone, points) of a purse's buys: points count from first on, and no more from gone on."""
    span = house_of(book, purse).span
    spells = []
    for ref, told in state.earned.items():
        if told[0] == "buy" and told[1] == purse:
            over = told[2] + span
            spells.append((told[2], min(over, state.backs.get(ref, over)), told[3]))
    return spells


def points_on(spells, day):
    """The points that count on a day."""
    return sum([points for first, gone, points in spells if first <= day < gone])


def rank_by(house, points):
    """How many ranks of a house so many points reach."""
    return len([least for least, title in house.ranks if least <= points])


def counted(state, book, purse, day):
    """The points of a purse's buys within the span that ends with a day, but of those taken back by then."""
    return points_on(spells_of(state, book, purse), day)


def plain_rank(state, book, purse, day):
    """How many ranks of a purse's house are reached by what is counted on a day."""
    return rank_by(house_of(book, purse), counted(state, book, purse, day))


def rank(state, book, purse, day):
    """The greatest plain rank of a day and of as many days ahead of it as the grace tells."""
    house = house_of(book, purse)
    spells = spells_of(state, book, purse)
    start = max(day - house.grace, 0)
    # A grace may be of twelve figures. Only a buy lifts the count, so no other day can have more than the one ahead.
    days = [start] + [first for first, gone, points in spells if start < first <= day]
    return rank_by(house, max([points_on(spells, chosen) for chosen in days]))


def title_of(book, purse, rank):
    """The title of a rank of a purse's house, the empty text for 0."""
    return "" if rank == 0 else house_of(book, purse).ranks[rank - 1][1]


def next_fall(state, book, purse):
    """The first day after the state's on which the rank is less than on the state's day; None for no rank."""
    now = rank(state, book, purse, state.day)
    if now == 0:
        return None
    house = house_of(book, purse)
    spells = spells_of(state, book, purse)
    # Behind the state's day the count only ebbs: the rank holds to the last day that reaches it, and through its grace.
    ebbs = [gone for first, gone, points in spells if rank_by(house, points_on(spells, gone - 1)) >= now]
    return max(ebbs) + house.grace


def points_lapsed(state, purse):
    """How many points of a purse lapsed in the morning of the state's day."""
    like = ("lapsed", purse, "", state.day)
    return sum([end[5] for end in state.ends if end[1:5] == like])


def next_lapse(state, book, purse):
    """The pair (day, points) of the next lapsing of a purse's points if no deed is done; None where none lapse."""
    # The mornings of all purses are walked: what is lent may come back, go back or lapse elsewhere first.
    twin = twin_of(book, state)
    coming = next_morning(book, twin)
    while coming is not None:
        twin.day = coming
        morning(book, twin)
        points = points_lapsed(twin, purse)
        if points > 0:
            return (coming, points)
        coming = next_morning(book, twin)
    return None
