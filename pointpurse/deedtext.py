"""Deeds as texts: words parted by blanks."""

from pointpurse.deeds import checked_deed, is_number_part, named_parts, parts_of
from pointpurse.errors import BadDeed

MOST_FIGURES = 12


def words_in(text):
    """The words of a text, parted by blanks and by no other sign."""
    return [word for word in text.split(" ") if word != ""]


def is_written_number(word):
    """Whether word is a number as a text has it: 1 to 12 figures, the first no nought but in 0."""
    if not 1 <= len(word) <= MOST_FIGURES:
        return False
    # Signs, points and figures beyond 0 to 9 are let in by Python, but not here.
    if not all(["0" <= sign <= "9" for sign in word]):
        return False
    return word == "0" or word[0] != "0"


def words_of(part, value):
    """The words by which a deed's part is told."""
    if part == "first":
        return list(value)
    if part == "lines":
        words = []
        for kind, money in value:
            words.extend([kind, str(money)])
        return words
    return [str(value)]


def deed_text(deed):
    """The text of a deed."""
    checked_deed(deed)
    words = [deed[0]]
    for part, value in named_parts(deed).items():
        words.extend(words_of(part, value))
    return " ".join(words)


def read_number(word):
    """The number that a word tells."""
    if not is_written_number(word):
        raise BadDeed("a word that must be a number is none")
    return int(word)


def read_lines(words):
    """The lines that these words tell, kind and money one behind the other."""
    kinds = words[0::2]
    moneys = words[1::2]
    if len(kinds) != len(moneys):
        raise BadDeed("the last line has no money")
    return tuple([(kind, read_number(money)) for kind, money in zip(kinds, moneys)])


def read_part(part, words):
    """The value of a deed's part that these words tell."""
    if part == "first":
        return tuple(words)
    if part == "lines":
        return read_lines(words)
    if len(words) != 1:
        raise BadDeed("the text has too few words")
    if is_number_part(part):
        return read_number(words[0])
    return words[0]


def read_deed(text):
    """The deed that a text tells; a text that tells none is refused with BadDeed."""
    words = words_in(text)
    if len(words) == 0:
        raise BadDeed("the text has no words")
    values = [words[0]]
    ahead = words[1:]
    for part in parts_of(words[0]):
        many = len(ahead) if part in ("lines", "first") else 1
        values.append(read_part(part, ahead[:many]))
        ahead = ahead[many:]
    if len(ahead) > 0:
        raise BadDeed("the text has words that belong to no part")
    deed = tuple(values)
    checked_deed(deed)
    return deed
