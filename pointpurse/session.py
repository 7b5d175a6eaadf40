"""Statements, and sessions: a book and calls as one text, and what is told to each call."""

from pointpurse.deedtext import read_deed
from pointpurse.deskreader import book_by, read_desk
from pointpurse.errors import BadDeed, NoDeed, NoRate, NotOver, TooFew, Twice, WrongDay
from pointpurse.ledger import Ledger
from pointpurse.piles import sum_of
from pointpurse.ranks import next_fall, next_lapse, rank
from pointpurse.stories import SUMMED, story, sums


def shown(value):
    """A value as a text has it: a stroke in the place of None and of the empty text."""
    return "-" if value is None or value == "" else str(value)


def statement(state, book, purse):
    """A line of what a purse has and owes, its rank, and what comes of itself."""
    owes = sum([points for ref, to, points in state.debts[purse]])
    words = [
        purse, state.day, "has", sum_of(state.rows[purse], False), "owes", owes,
        "rank", rank(state, book, purse, state.day), "falls", next_fall(state, book, purse), "lapse",
    ]
    words.extend(next_lapse(state, book, purse) or (None, None))
    return " ".join([shown(word) for word in words])


def answer_tell(ledger, told, text):
    """Tell the deed of a text on a day: done, or the name of the refusal."""
    try:
        ledger.tell(read_deed(text), told)
    except BadDeed:
        return "BadDeed"
    except Twice:
        return "Twice"
    except NoDeed:
        return "NoDeed"
    except WrongDay:
        return "WrongDay"
    except NoRate:
        return "NoRate"
    except TooFew:
        return "TooFew"
    return "done"


def answer_known(ledger, purse, day, known):
    """The statement of a day as known on a day, or NotOver."""
    try:
        state = ledger.state_known(day, known)
    except NotOver:
        return "NotOver"
    return statement(state, ledger.book, purse)


def answer_story(state, source):
    """A source's story by its tuples, or NoDeed."""
    try:
        places = story(state, source)
    except NoDeed:
        return "NoDeed"
    return ", ".join([" ".join([shown(part) for part in place]) for place in places])


def answer_sums(state, book, house):
    """The numbers of points of a house, in the order of SUMMED."""
    numbers = sums(state, book, house)
    return " ".join([str(numbers[word]) for word in SUMMED])


def answer(ledger, call):
    """What is told to a call."""
    if call[0] == "tell":
        return answer_tell(ledger, call[1], call[2])
    if call[0] == "known":
        return answer_known(ledger, call[1], call[2], call[3])
    state = ledger.state(call[2])
    if call[0] == "ask":
        return statement(state, ledger.book, call[1])
    if call[0] == "story":
        return answer_story(state, call[1])
    return answer_sums(state, ledger.book, call[1])


def answers(text):
    """What is told to each call of a session, in order; what is no session is refused ahead of the first one."""
    desk = read_desk(text)
    ledger = Ledger(book_by(desk))
    return [answer(ledger, call) for call in desk.calls]
