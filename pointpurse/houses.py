"""Names, and houses: what a house gives for buyings and how it keeps its points."""

from pointpurse.checks import are_rising, are_unlike, is_list, is_number, is_tuple_of
from pointpurse.errors import BadHouse

LONGEST_NAME = 8


def is_name(text):
    """Whether text is a name: 1 to 8 small letters a to z."""
    if not isinstance(text, str) or not 1 <= len(text) <= LONGEST_NAME:
        return False
    # The methods for letters would let in letters beyond a to z.
    return all(["a" <= sign <= "z" for sign in text])


def demand(holds, words):
    """Refuse a house for which something that must hold doesn't."""
    if not holds:
        raise BadHouse(words)


def is_number_or_none(value, least):
    """Whether value is None, or a number and not below least."""
    return value is None or is_number(value, least)


def check_list(value, many, words):
    """Refuse what is no list of tuples with so many parts."""
    demand(is_list(value), words)
    demand(all([is_tuple_of(part, many) for part in value]), words)


def check_share(share):
    """Refuse a share that is no pair of a top and a bottom."""
    demand(is_tuple_of(share, 2), "the share is no pair")
    demand(is_number(share[0], 0), "the share's top is no number, or too low")
    demand(is_number(share[1], 1), "the share's bottom is no number, or too low")


def check_kinds(kinds):
    """Refuse kinds that are no unlike names with factors."""
    check_list(kinds, 2, "kinds is no list of pairs")
    for kind, factor in kinds:
        demand(is_name(kind), "a kind is no name")
        demand(is_number(factor, 0), "a kind's factor is no number, or too low")
    demand(are_unlike([kind for kind, factor in kinds]), "a kind is told twice")


def check_leasts(pairs, lowest, words):
    """Refuse pairs whose leasts are below the lowest or don't rise."""
    check_list(pairs, 2, words)
    demand(all([is_number(pair[0], lowest) for pair in pairs]), words)
    demand(are_rising([pair[0] for pair in pairs]), words)


def check_steps(steps):
    """Refuse steps whose leasts or extras are not as they must be."""
    check_leasts(steps, 0, "the leasts of the steps are too low or don't rise")
    for least, extra in steps:
        demand(is_number(extra, 0), "a step's extra is no number, or too low")


def check_doubles(doubles):
    """Refuse doubles whose days or factors are not as they must be."""
    check_list(doubles, 3, "doubles is no list of triples")
    for first, last, factor in doubles:
        demand(is_number(first, 0) and is_number(last, 0), "a double's day is no day")
        demand(first <= last, "a double's first day is behind its last one")
        demand(is_number(factor, 1), "a double's factor is no number, or too low")


def check_ranks(ranks):
    """Refuse ranks whose leasts or titles are not as they must be."""
    check_leasts(ranks, 1, "the leasts of the ranks are too low or don't rise")
    for least, title in ranks:
        demand(is_name(title), "a rank's title is no name")


class House:
    """A house by its eleven fields; its lists are kept as tuples."""

    def __init__(self, name, share, kinds, steps, doubles, cap, age, rest, ranks, span, grace):
        demand(is_name(name), "the house's name is no name")
        check_share(share)
        check_kinds(kinds)
        check_steps(steps)
        check_doubles(doubles)
        demand(is_number_or_none(cap, 0), "the cap is no number, or too low")
        demand(is_number_or_none(age, 1), "the age is no number, or too low")
        demand(is_number_or_none(rest, 1), "the rest is no number, or too low")
        check_ranks(ranks)
        demand(is_number(span, 1), "the span is no number, or too low")
        demand(is_number(grace, 0), "the grace is no number, or too low")
        self.name = name
        self.share = share
        self.kinds = tuple(kinds)
        self.steps = tuple(steps)
        self.doubles = tuple(doubles)
        self.cap = cap
        self.age = age
        self.rest = rest
        self.ranks = tuple(ranks)
        self.span = span
        self.grace = grace
