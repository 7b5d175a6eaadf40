"""Rows of piles: how points lie in a purse, the eldest first.

A pile is a tuple (born, source, mark, points); a row is a sorted list of piles, no two of one (born, source, mark).
"""


def with_points(pile, points):
    """A pile like this one, but of so many points."""
    return (pile[0], pile[1], pile[2], points)


def with_mark(pile, mark):
    """A pile like this one, but with this mark."""
    return (pile[0], pile[1], mark, pile[3])


def laid(row, piles):
    """The row with these piles put in, those of one (born, source, mark) as one pile."""
    many = {}
    for born, source, mark, points in list(row) + list(piles):
        many[(born, source, mark)] = many.get((born, source, mark), 0) + points
    return [(born, source, mark, many[(born, source, mark)]) for born, source, mark in sorted(many)]


def may_be_drawn(pile, own):
    """Whether a pile counts: where own is True, only one without a mark does."""
    return not own or pile[2] == ""


def sum_of(row, own):
    """The number of all points of a row, of those with no mark where own is True."""
    return sum([pile[3] for pile in row if may_be_drawn(pile, own)])


def drawing_order(row, first):
    """The places of a row's piles in the order of drawing: those of the sources in first, then all."""
    places = []
    for name in first:
        places.extend([place for place, pile in enumerate(row) if pile[1] == name])
    # So a pile may stand here twice; the second time only what is still in it can be drawn.
    return places + list(range(len(row)))


def drawn(row, points, first, own):
    """The pair (taken, left) of rows when so many points are drawn, or as many as there are."""
    wanted = points
    takings = [0 for pile in row]
    for place in drawing_order(row, first):
        pile = row[place]
        if may_be_drawn(pile, own):
            step = min(wanted, pile[3] - takings[place])
            takings[place] = takings[place] + step
            wanted = wanted - step
    taken = [with_points(pile, taking) for pile, taking in zip(row, takings) if taking > 0]
    left = [with_points(pile, pile[3] - taking) for pile, taking in zip(row, takings) if taking < pile[3]]
    return (taken, left)


def aged(row, age, day):
    """The pair (gone, left) of rows: the piles that have come to this age by the day, and the others."""
    if age is None:
        return ([], list(row))
    gone = [pile for pile in row if pile[0] + age <= day]
    left = [pile for pile in row if pile[0] + age > day]
    return (gone, left)
