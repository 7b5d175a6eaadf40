"""The walk: deeds are done by their days, behind the mornings, and a State tells what has come of it."""

from pointpurse.books import house_of, rate_of
from pointpurse.debts import paid_off
from pointpurse.deeds import named_parts, place_of
from pointpurse.earning import brings
from pointpurse.piles import aged, drawn, laid, sum_of, with_mark


class State:
    """What the purses hold and owe at the end of a day, and what has become of their points.

    Two fields are there for the mornings to come alone: stirs, the day of each purse's last stir, and lendings,
    from the ref of each that is not over to (purse, other, end, points), the points that are still to come back.
    """

    def __init__(self, book):
        self.day = 0
        self.rows = dict([(purse, []) for purse, name in book.purses])
        self.debts = dict([(purse, []) for purse, name in book.purses])
        self.earned = {}
        self.ends = []
        self.owed = []
        self.odds = {}
        self.backs = {}
        self.stirs = {}
        self.lendings = {}


def twin_of(book, state):
    """A State like this one, which may be walked on: none of its lists and dicts is this one's."""
    twin = State(book)
    twin.day = state.day
    twin.rows = dict([(purse, list(row)) for purse, row in state.rows.items()])
    twin.debts = dict([(purse, list(debts)) for purse, debts in state.debts.items()])
    twin.earned = dict(state.earned)
    twin.ends = list(state.ends)
    twin.owed = list(state.owed)
    twin.odds = dict(state.odds)
    twin.backs = dict(state.backs)
    twin.stirs = dict(state.stirs)
    twin.lendings = dict(state.lendings)
    return twin


def lay(state, purse, piles):
    """Put piles into a purse's row; one of no points is not laid."""
    state.rows[purse] = laid(state.rows[purse], [pile for pile in piles if pile[3] > 0])


def end_points(state, piles, what, purse, ref):
    """Tell, pile by pile, that points are no more."""
    for born, source, mark, points in piles:
        state.ends.append((source, what, purse, ref, state.day, points))


def owe(state, purse, ref, to, points):
    """Let a debt of the purse come, where it is more than none."""
    if points > 0:
        state.debts[purse].append((ref, to, points))
        state.owed.append((ref, purse, to, state.day, points))


def draw(state, parts, first, own):
    """Draw the points of a deed out of its purse's row, as many as there are, and tell their piles."""
    rows = drawn(state.rows[parts["purse"]], parts["points"], first, own)
    state.rows[parts["purse"]] = rows[1]
    return rows[0]


def end_lending(state, ref):
    """Let a lending's points go back; what is neither there nor lapsed is a debt to the purse that lent."""
    lending = state.lendings.pop(ref)
    purse = lending[0]
    other = lending[1]
    piles = [pile for pile in state.rows[other] if pile[2] == ref]
    state.rows[other] = [pile for pile in state.rows[other] if pile[2] != ref]
    lay(state, purse, [with_mark(pile, "") for pile in piles])
    owe(state, other, ref, purse, lending[3] - sum_of(piles, False))


def lapse(state, purse, gone, left):
    """Let these piles of a purse lapse, so that its row is what is left."""
    for pile in gone:
        # What lapses while it is lent need not come back.
        if pile[2] != "":
            lending = state.lendings[pile[2]]
            state.lendings[pile[2]] = (lending[0], lending[1], lending[2], lending[3] - pile[3])
    end_points(state, gone, "lapsed", purse, "")
    state.rows[purse] = left


def lapse_of_age(book, state, purse):
    """Let the piles of a purse lapse that are aged."""
    rows = aged(state.rows[purse], house_of(book, purse).age, state.day)
    lapse(state, purse, rows[0], rows[1])


def lapse_of_rest(book, state, purse):
    """Let all piles of a purse lapse that has rested for long enough."""
    rest = house_of(book, purse).rest
    # A purse that never stirred has no piles.
    if rest is not None and purse in state.stirs and state.stirs[purse] + rest <= state.day:
        lapse(state, purse, state.rows[purse], [])


def morning(book, state):
    """What comes of itself in the morning of the state's day."""
    for ref in sorted([ref for ref, lending in state.lendings.items() if lending[2] == state.day]):
        end_lending(state, ref)
    for purse, name in book.purses:
        lapse_of_age(book, state, purse)
    for purse, name in book.purses:
        lapse_of_rest(book, state, purse)


def lapse_days(book, state, purse):
    """The days from which on something of a purse's row lapses, if nothing more is done."""
    row = state.rows[purse]
    house = house_of(book, purse)
    days = []
    if len(row) > 0 and house.age is not None:
        days.append(row[0][0] + house.age)
    if len(row) > 0 and house.rest is not None:
        days.append(state.stirs[purse] + house.rest)
    return days


def next_morning(book, state):
    """The first day after the state's in whose morning something comes of itself; None where there is none."""
    days = [lending[2] for lending in state.lendings.values()]
    for purse, name in book.purses:
        days.extend(lapse_days(book, state, purse))
    # A debt may be paid to a purse that has rested long: that pile lapses in the very next morning.
    return max(min(days), state.day + 1) if len(days) > 0 else None


def pass_mornings(book, state, day):
    """Let all mornings after the state's day pass, up to that of a day."""
    # Days may have twelve figures, so the mornings in which nothing comes are passed over.
    coming = next_morning(book, state)
    while coming is not None and coming <= day:
        state.day = coming
        morning(book, state)
        coming = next_morning(book, state)
    state.day = day


def points_of_buy(book, state, parts):
    """What a buy brings: no more than the cap leaves behind the buys of its purse ahead on this day."""
    house = house_of(book, parts["purse"])
    points = brings(house, state.day, parts["lines"])
    if house.cap is None:
        return points
    like = ("buy", parts["purse"], state.day)
    return min(points, house.cap - sum([told[3] for told in state.earned.values() if told[:3] == like]))


def buy(book, state, parts):
    """Do a buy: debts are paid out of what it brings, the rest is laid into the purse's row."""
    purse = parts["purse"]
    ref = parts["ref"]
    points = points_of_buy(book, state, parts)
    state.earned[ref] = ("buy", purse, state.day, points)
    paid = paid_off(state.debts[purse], points)
    state.debts[purse] = paid[1]
    for debt, to, payment in paid[0]:
        pile = (state.day, ref, "", payment)
        if to == "":
            end_points(state, [pile], "paid", purse, debt)
        else:
            lay(state, to, [pile])
    lay(state, purse, [(state.day, ref, "", paid[2])])


def spend(state, parts):
    """Do a spending: what lacks is a debt to the house."""
    taken = draw(state, parts, parts["first"], False)
    end_points(state, taken, "spent", parts["purse"], parts["ref"])
    owe(state, parts["purse"], parts["ref"], "", parts["points"] - sum_of(taken, False))


def give(state, parts):
    """Do a giving."""
    lay(state, parts["other"], draw(state, parts, (), True))


def lend(state, parts):
    """Do a lending: the points bear its mark until they go back."""
    taken = draw(state, parts, (), True)
    lay(state, parts["other"], [with_mark(pile, parts["ref"]) for pile in taken])
    state.lendings[parts["ref"]] = (parts["purse"], parts["other"], parts["end"], sum_of(taken, False))


def change(book, state, parts):
    """Do a change: the odd part of what it is worth is kept for the next one of these two purses."""
    purse = parts["purse"]
    other = parts["other"]
    ref = parts["ref"]
    rate = rate_of(book, purse, other)
    taken = draw(state, parts, (), True)
    end_points(state, taken, "changed", purse, ref)
    worth = divmod(sum_of(taken, False) * rate[0] + state.odds.get((purse, other), 0), rate[1])
    state.earned[ref] = ("change", other, state.day, worth[0])
    state.odds[(purse, other)] = worth[1]
    lay(state, other, [(state.day, ref, "", worth[0])])


def back(state, parts):
    """Do a taking back: what the buy brought and is neither there nor lapsed is a debt to the house."""
    source = parts["of"]
    if source not in state.earned or state.earned[source][0] != "buy" or source in state.backs:
        return
    purse = state.earned[source][1]
    taken = [pile for pile in state.rows[purse] if pile[1] == source and pile[2] == ""]
    state.rows[purse] = [pile for pile in state.rows[purse] if pile[1] != source or pile[2] != ""]
    end_points(state, taken, "taken", purse, parts["ref"])
    lapsed = sum([end[5] for end in state.ends if end[0] == source and end[1] == "lapsed"])
    owe(state, purse, parts["ref"], "", state.earned[source][3] - sum_of(taken, False) - lapsed)
    state.backs[source] = state.day


def do_deed(book, state, deed):
    """Do a deed on the state's day."""
    parts = named_parts(deed)
    for part in ("purse", "other"):
        if part in parts:
            state.stirs[parts[part]] = state.day
    if deed[0] == "buy":
        buy(book, state, parts)
    elif deed[0] == "spend":
        spend(state, parts)
    elif deed[0] == "give":
        give(state, parts)
    elif deed[0] == "lend":
        lend(state, parts)
    elif deed[0] == "change":
        change(book, state, parts)
    else:
        back(state, parts)


def walked(book, deeds, day):
    """The State at the end of a day when these deeds, but those of later days, are done by (day, ref)."""
    state = State(book)
    for deed in sorted(deeds, key=place_of):
        if place_of(deed)[0] <= day:
            pass_mornings(book, state, place_of(deed)[0])
            do_deed(book, state, deed)
    pass_mornings(book, state, day)
    return state
