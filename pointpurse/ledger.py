"""Ledgers: deeds that are told on a day and count from a day, and what was known when."""

from pointpurse.books import has_purse, house_of, rate_of
from pointpurse.deeds import checked_deed, named_parts, place_of
from pointpurse.errors import BadDeed, NoDeed, NoRate, NotOver, TooFew, Twice, WrongDay
from pointpurse.piles import sum_of
from pointpurse.walk import walked


def check_in_book(book, deed):
    """Refuse what is no deed, or none of the book's purses and houses."""
    checked_deed(deed)
    parts = named_parts(deed)
    for part in ("purse", "other"):
        if part in parts and not has_purse(book, parts[part]):
            raise BadDeed("a purse is not the book's")
    if "other" in parts:
        within = house_of(book, parts["purse"]).name == house_of(book, parts["other"]).name
        if within == (deed[0] == "change"):
            raise BadDeed("it goes to a house to which it may not go")


def buy_of(deeds, ref):
    """The buy with this ref among deeds, None where there is none."""
    for deed in deeds:
        if deed[0] == "buy" and named_parts(deed)["ref"] == ref:
            return deed
    return None


def check_refs(deeds, deed):
    """Refuse a deed whose ref was told, or whose buy was not, or was taken back, by these deeds."""
    parts = named_parts(deed)
    if parts["ref"] in [named_parts(told)["ref"] for told in deeds]:
        raise Twice("a deed with this ref was told")
    if "of" in parts and buy_of(deeds, parts["of"]) is None:
        raise NoDeed("no such buy was told")
    if deed[0] == "back" and parts["of"] in [named_parts(told)["of"] for told in deeds if told[0] == "back"]:
        raise Twice("the buy was taken back")


def check_days(tellings, deed, told):
    """Refuse a deed that is told ahead of the last telling or of its day, or stands ahead of its buy."""
    parts = named_parts(deed)
    if len(tellings) > 0 and told < tellings[-1][1]:
        raise WrongDay("a deed was told on a later day")
    if "day" in parts and parts["day"] > told:
        raise WrongDay("the deed's day is still to come")
    if deed[0] == "back" and place_of(deed) <= place_of(buy_of([pair[0] for pair in tellings], parts["of"])):
        raise WrongDay("the taking back does not stand behind its buy")


def check_rate(book, deed):
    """Refuse a change for which the book has no rate."""
    parts = named_parts(deed)
    if deed[0] == "change" and rate_of(book, parts["purse"], parts["other"]) is None:
        raise NoRate("there is no rate between these houses")


def check_points(book, deeds, deed):
    """Refuse a deed that finds fewer points than it tells, where the deeds that stand ahead of it are done."""
    parts = named_parts(deed)
    if "points" not in parts:
        return
    ahead = [known for known in deeds if place_of(known) < place_of(deed)]
    row = walked(book, ahead, parts["day"]).rows[parts["purse"]]
    if sum_of(row, deed[0] != "spend") < parts["points"]:
        raise TooFew("the purse has fewer points than that")


def lines_fixed(tellings):
    """The lines of the last fix of each buy that was fixed, by the buy's ref."""
    fixed = {}
    for deed, told in tellings:
        if deed[0] == "fix":
            parts = named_parts(deed)
            fixed[parts["of"]] = parts["lines"]
    return fixed


def as_fixed(deed, fixed):
    """The deed, with the lines that a fix gave it in the place of its own, if there is one of it."""
    ref = named_parts(deed)["ref"]
    # Only buys are fixed, and their lines stand last.
    return deed[:-1] + (fixed[ref],) if ref in fixed else deed


class Ledger:
    """Deeds of a book's purses, told one behind the other."""

    def __init__(self, book):
        self.book = book
        self.told = []

    def tell(self, deed, told):
        """Tell a deed on a day; what may not be told is refused and changes nothing."""
        deeds = [pair[0] for pair in self.told]
        check_in_book(self.book, deed)
        check_refs(deeds, deed)
        check_days(self.told, deed, told)
        check_rate(self.book, deed)
        check_points(self.book, self.settled(len(self.told)), deed)
        self.told.append((deed, told))

    def tellings(self):
        """All pairs (deed, told), in order."""
        return list(self.told)

    def settled(self, many):
        """The deeds of the first so many tellings, each buy as its last fix among them has it."""
        tellings = self.told[:many]
        fixed = lines_fixed(tellings)
        return [as_fixed(deed, fixed) for deed, told in tellings if deed[0] != "fix"]

    def state(self, day):
        """The State at the end of a day by all that was told."""
        return walked(self.book, self.settled(len(self.told)), day)

    def state_known(self, day, known):
        """The State at the end of a day by what was told up to the day known, which must be over."""
        if len(self.told) == 0 or known >= self.told[-1][1]:
            raise NotOver("something may still be told on that day")
        many = len([pair for pair in self.told if pair[1] <= known])
        return walked(self.book, self.settled(many), day)
