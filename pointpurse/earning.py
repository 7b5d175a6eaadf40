"""What a buying brings, ahead of any cap."""


def factor_of(house, kind):
    """The factor of a kind, 1 for one that the house does not tell."""
    for told, factor in house.kinds:
        if told == kind:
            return factor
    return 1


def weighed(house, lines):
    """The sum of each line's money times the factor of its kind."""
    return sum([money * factor_of(house, kind) for kind, money in lines])


def day_factor(house, day):
    """The greatest factor of the doubles that hold on a day, 1 where none does."""
    return max([factor for first, last, factor in house.doubles if first <= day <= last], default=1)


def extra_of(house, lines):
    """The extra of the last step that the lines' money reaches, 0 where it reaches none."""
    money_in_all = sum([money for kind, money in lines])
    reached = 0
    for least, extra in house.steps:
        if least <= money_in_all:
            reached = extra
    return reached


def brings(house, day, lines):
    """The number of points that a buying of these lines brings on a day, ahead of any cap."""
    top = house.share[0]
    bottom = house.share[1]
    plain = weighed(house, lines) * top // bottom
    return (plain + extra_of(house, lines)) * day_factor(house, day)
