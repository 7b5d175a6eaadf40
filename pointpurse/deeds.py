"""Deeds: the tuples by which buyings, spendings and the like are told."""

from pointpurse.checks import are_unlike, is_number, is_tuple_of
from pointpurse.errors import BadDeed
from pointpurse.houses import is_name

# What stands behind each deed's word, in order.
PARTS = {
    "buy": ("ref", "day", "purse", "lines"),
    "spend": ("ref", "day", "purse", "points", "first"),
    "give": ("ref", "day", "purse", "other", "points"),
    "change": ("ref", "day", "purse", "other", "points"),
    "lend": ("ref", "day", "purse", "other", "points", "end"),
    "back": ("ref", "day", "of"),
    "fix": ("ref", "of", "lines"),
}

# The parts that are numbers, each with the least that it may be.
LEASTS = {"day": 0, "points": 1, "end": 0}

MOST_IN_A_LIST = 8


def parts_of(word):
    """The names of the parts behind a deed's word, in order; none where no deed has this word."""
    return PARTS.get(word, ())


def is_number_part(part):
    """Whether the part of this name is a number."""
    return part in LEASTS


def is_line(line):
    """Whether line is a pair of a kind and money."""
    return is_tuple_of(line, 2) and is_name(line[0]) and is_number(line[1], 0)


def are_lines(lines):
    """Whether lines are what a buying has: one to eight lines."""
    if not isinstance(lines, tuple) or not 1 <= len(lines) <= MOST_IN_A_LIST:
        return False
    return all([is_line(line) for line in lines])


def are_unlike_names(names):
    """Whether names are up to eight names, none of them twice."""
    if not isinstance(names, tuple) or len(names) > MOST_IN_A_LIST:
        return False
    return all([is_name(name) for name in names]) and are_unlike(names)


def is_value_of(part, value):
    """Whether value may stand for the part of this name, looked at by itself."""
    if part == "lines":
        return are_lines(value)
    if part == "first":
        return are_unlike_names(value)
    if is_number_part(part):
        return is_number(value, LEASTS[part])
    return is_name(value)


def has_its_parts(deed):
    """Whether deed is a word with the parts that belong to it."""
    if not isinstance(deed, tuple) or len(deed) == 0:
        return False
    parts = parts_of(deed[0])
    # No deed is a word alone, so a word of no deed is told by its lack of parts.
    if len(parts) == 0 or len(deed) != len(parts) + 1:
        return False
    return all([is_value_of(part, value) for part, value in zip(parts, deed[1:])])


def named_parts(deed):
    """The parts of a deed behind its word, by their names."""
    return dict(zip(parts_of(deed[0]), deed[1:]))


def place_of(deed):
    """The pair (day, ref) by which deeds are done; a fix has no place."""
    parts = named_parts(deed)
    return (parts["day"], parts["ref"])


def go_together(parts):
    """Whether no part of a deed stands in the way of another one."""
    if "other" in parts and parts["other"] == parts["purse"]:
        return False
    if "of" in parts and parts["of"] == parts["ref"]:
        return False
    return "end" not in parts or parts["end"] > parts["day"]


def checked_deed(deed):
    """True for a deed; what is none is refused with BadDeed."""
    if not has_its_parts(deed):
        raise BadDeed("this is no deed's word, or its parts are not as they must be")
    if not go_together(named_parts(deed)):
        raise BadDeed("two parts of the deed don't go together")
    return True
