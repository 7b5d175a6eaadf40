"""A session's lines: those that tell its book, and behind them the calls, which are answered one by one."""

from pointpurse.books import Book
from pointpurse.deedtext import is_written_number, words_in
from pointpurse.errors import BadText
from pointpurse.houses import House

# What stands behind the first word of each line of the book, in order.
BOOK_FORMS = {
    "house": ("word", "number", "number", "maybe", "maybe", "maybe", "number", "number"),
    "kind": ("house", "word", "number"),
    "step": ("house", "number", "number"),
    "double": ("house", "number", "number", "number"),
    "rank": ("house", "number", "word"),
    "purse": ("word", "house"),
    "rate": ("house", "house", "number", "number"),
}

# What stands behind the first word of each call, in order; a deed is all the words to the line's end.
CALL_FORMS = {
    "tell": ("number", "deed"),
    "ask": ("purse", "number"),
    "known": ("purse", "number", "number"),
    "story": ("word", "number"),
    "sums": ("house", "number"),
}

# The lines of the book that put one behind in a list of their house.
LISTED = ("kind", "step", "double", "rank")


class Desk:
    """The lines read so far, each a tuple of its first word and its values, and the names that they told."""

    def __init__(self):
        self.lines = []
        self.calls = []
        self.house_names = {}
        self.purse_names = {}


def form_of(desk, word):
    """What must stand behind a line's first word; None where no such line may stand here."""
    if word in CALL_FORMS:
        return CALL_FORMS[word]
    # Behind the first call no line of the book may stand.
    return BOOK_FORMS.get(word) if len(desk.calls) == 0 else None


def parted(words, form):
    """The words behind a line's first one, the words of a deed as one text."""
    ahead = words[1:]
    many = len(form) - 1
    if form[many] == "deed" and len(ahead) > many:
        return ahead[:many] + [" ".join(ahead[many:])]
    return ahead


def fits(desk, part, word):
    """Whether a word may stand where a form has this part."""
    if part == "number":
        return is_written_number(word)
    if part == "maybe":
        return word == "-" or is_written_number(word)
    if part == "house":
        return word in desk.house_names
    if part == "purse":
        return word in desk.purse_names
    return True


def value_of(part, word):
    """The value that a word tells where a form has this part."""
    if part == "maybe" and word == "-":
        return None
    return int(word) if part in ("number", "maybe") else word


def read_line(desk, words, number):
    """The tuple of a line's first word and its values; a line that is of no form is refused by its number."""
    form = form_of(desk, words[0])
    if form is None:
        raise BadText(number)
    told = parted(words, form)
    if len(told) != len(form) or not all([fits(desk, part, word) for part, word in zip(form, told)]):
        raise BadText(number)
    return tuple([words[0]] + [value_of(part, word) for part, word in zip(form, told)])


def keep_line(desk, line):
    """Keep a line that was read, and the name that it tells."""
    if line[0] in CALL_FORMS:
        desk.calls.append(line)
    else:
        desk.lines.append(line)
    if line[0] == "house":
        desk.house_names[line[1]] = True
    if line[0] == "purse":
        desk.purse_names[line[1]] = True


def read_desk(text):
    """The Desk with all lines of a text; the first one that is of no form is refused with BadText."""
    desk = Desk()
    for number, row in enumerate(text.split("\n"), start=1):
        words = words_in(row)
        if len(words) > 0:
            keep_line(desk, read_line(desk, words, number))
    return desk


def drafts_of(lines):
    """For each house, in order, a dict of its line and its lists."""
    drafts = []
    # Houses of one name are refused only later; until then the last one ahead gets the lines of that name.
    last = {}
    for line in lines:
        if line[0] == "house":
            last[line[1]] = {"house": line, "kind": [], "step": [], "double": [], "rank": []}
            drafts.append(last[line[1]])
        if line[0] in LISTED:
            last[line[1]][line[0]].append(line[2:])
    return drafts


def house_by(draft):
    """The House that a draft tells."""
    line = draft["house"]
    return House(
        name=line[1], share=(line[2], line[3]),
        kinds=draft["kind"], steps=draft["step"], doubles=draft["double"],
        cap=line[4], age=line[5], rest=line[6],
        ranks=draft["rank"], span=line[7], grace=line[8],
    )


def book_by(desk):
    """The Book that a desk's lines tell; the houses are refused first, in order."""
    houses = [house_by(draft) for draft in drafts_of(desk.lines)]
    purses = [line[1:] for line in desk.lines if line[0] == "purse"]
    rates = [line[1:] for line in desk.lines if line[0] == "rate"]
    return Book(houses, purses, rates)
