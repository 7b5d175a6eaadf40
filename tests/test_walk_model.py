"""[12] to [15]: walked beside a plain model that walks every single day and moves every single point."""

import collections
import unittest

from pointpurse.books import Book
from pointpurse.earning import brings
from pointpurse.houses import House
from pointpurse.walk import walked

LAST_DAY = 24
# Buys, spendings and lendings more often than the others, so that much is lent, spent and owed.
WORDS = ("buy",) * 5 + ("spend",) * 4 + ("lend",) * 4 + ("give", "change", "change", "back", "back")
FIELDS = ("day", "rows", "debts", "earned", "ends", "owed", "odds", "backs")


class Model:
    """The State's fields, come to in the plainest way: a point is a list [purse, born, source, mark]."""

    def __init__(self, book, deeds, day):
        self.houses = {house.name: house for house in book.houses}
        self.house_names = dict(book.purses)
        self.rates = {(rate[0], rate[1]): (rate[2], rate[3]) for rate in book.rates}
        self.points = []
        self.debts = {purse: [] for purse in self.house_names}
        self.earned, self.ends, self.owed, self.odds, self.backs = {}, [], [], {}, {}
        self.stirs, self.lendings, self.lapsed_marks = {}, [], collections.Counter()
        for self.day in range(day + 1):
            self.morning()
            for deed in sorted([deed for deed in deeds if deed[2] == self.day], key=lambda deed: deed[1]):
                if deed[0] != "back":
                    self.stirs[deed[3]] = self.day
                if deed[0] in ("give", "lend", "change"):
                    self.stirs[deed[4]] = self.day
                getattr(self, deed[0])(*deed[1:])

    @property
    def rows(self):
        return {purse: self.row_of(self.held(purse)) for purse in self.house_names}

    def row_of(self, points):
        many = collections.Counter([tuple(point[1:]) for point in points])
        return sorted([key + (many[key],) for key in many])

    def house(self, purse):
        return self.houses[self.house_names[purse]]

    def held(self, purse):
        return sorted([point for point in self.points if point[0] == purse])

    def finish(self, points, what, purse, ref):
        for born, source, mark, many in self.row_of(points):
            self.ends.append((source, what, purse, ref, self.day, many))
        gone = set(map(id, points))
        self.points = [point for point in self.points if id(point) not in gone]

    def owe(self, purse, ref, to, many):
        if many > 0:
            self.debts[purse].append((ref, to, many))
            self.owed.append((ref, purse, to, self.day, many))

    def lapse(self, purse, points):
        self.lapsed_marks.update([point[3] for point in points])
        self.finish(points, "lapsed", purse, "")

    def morning(self):
        for ref, purse, other, end, many in sorted(self.lendings):
            if end == self.day:
                coming = [point for point in self.held(other) if point[3] == ref]
                for point in coming:
                    point[0], point[3] = purse, ""
                self.owe(other, ref, purse, many - len(coming) - self.lapsed_marks[ref])
        for purse in self.house_names:
            age = self.house(purse).age
            if age is not None:
                self.lapse(purse, [point for point in self.held(purse) if point[1] + age <= self.day])
        for purse in self.house_names:
            rest = self.house(purse).rest
            if rest is not None and purse in self.stirs and self.stirs[purse] + rest <= self.day:
                self.lapse(purse, self.held(purse))

    def draw(self, purse, many, first, own):
        piles = [point for point in self.held(purse) if not own or point[3] == ""]
        order = []
        for name in first:
            order.extend([point for point in piles if point[2] == name])
        order.extend([point for point in piles if point[2] not in first])
        return order[:many]

    def buy(self, ref, day, purse, lines):
        many = brings(self.house(purse), day, lines)
        if self.house(purse).cap is not None:
            ahead = sum([told[3] for told in self.earned.values() if told[:3] == ("buy", purse, day)])
            many = min(many, self.house(purse).cap - ahead)
        self.earned[ref] = ("buy", purse, day, many)
        left = []
        for debt, to, owed in self.debts[purse]:
            paid = min(owed, many)
            many -= paid
            if paid < owed:
                left.append((debt, to, owed - paid))
            if paid and to == "":
                self.ends.append((ref, "paid", purse, debt, day, paid))
            elif paid:
                self.points.extend([[to, day, ref, ""] for point in range(paid)])
        self.debts[purse] = left
        self.points.extend([[purse, day, ref, ""] for point in range(many)])

    def spend(self, ref, day, purse, many, first):
        points = self.draw(purse, many, first, False)
        self.finish(points, "spent", purse, ref)
        self.owe(purse, ref, "", many - len(points))

    def give(self, ref, day, purse, other, many):
        for point in self.draw(purse, many, (), True):
            point[0] = other

    def lend(self, ref, day, purse, other, many, end):
        points = self.draw(purse, many, (), True)
        for point in points:
            point[0], point[3] = other, ref
        self.lendings.append((ref, purse, other, end, len(points)))

    def change(self, ref, day, purse, other, many):
        points = self.draw(purse, many, (), True)
        self.finish(points, "changed", purse, ref)
        top, bottom = self.rates[(self.house_names[purse], self.house_names[other])]
        worth = len(points) * top + self.odds.get((purse, other), 0)
        self.earned[ref] = ("change", other, day, worth // bottom)
        self.odds[(purse, other)] = worth % bottom
        self.points.extend([[other, day, ref, ""] for point in range(worth // bottom)])

    def back(self, ref, day, of):
        if of in self.backs or self.earned.get(of, ("none",))[0] != "buy":
            return
        what, purse, bought, many = self.earned[of]
        points = [point for point in self.held(purse) if point[2] == of and point[3] == ""]
        self.finish(points, "taken", purse, ref)
        lapsed = sum([end[5] for end in self.ends if end[:2] == (of, "lapsed")])
        self.owe(purse, ref, "", many - len(points) - lapsed)
        self.backs[of] = day


class Choices:
    """Numbers that look like chance, but are the same in each run and under each Python."""

    def __init__(self, seed):
        self.number = seed * 2654435761 + 12345

    def below(self, many):
        self.number = (self.number * 6364136223846793005 + 1442695040888963407) & (1 << 64) - 1
        return (self.number >> 33) % many

    def one_of(self, values):
        return values[self.below(len(values))]


def book_by(choices):
    def house(name):
        return House(
            name, choices.one_of([(1, 1), (1, 2), (3, 2)]), [("tea", choices.below(4))], [(6, choices.below(5))],
            [(5, 9, 2)], choices.one_of([None, None, 12]), choices.one_of([None, None, 4, 9]),
            choices.one_of([None, None, 6]), [], 9, 0,
        )

    rates = [("shop", "mill", choices.one_of([2, 3]), choices.one_of([1, 3, 5])), ("mill", "shop", 1, 2)]
    return Book(
        [house("shop"), house("mill")],
        [("dan", "mill"), ("bob", "shop"), ("ann", "shop"), ("eve", "mill"), ("cid", "shop")], rates,
    )


def deed_by(choices, book, ref, refs):
    houses = dict(book.purses)
    purse = choices.one_of(sorted(houses))
    same = sorted([other for other in houses if houses[other] == houses[purse] and other != purse])
    unlike = sorted([other for other in houses if houses[other] != houses[purse]])
    day = choices.below(LAST_DAY + 2)
    points = choices.below(9) + 1
    word = choices.one_of(WORDS)
    if word == "buy":
        lines = [(choices.one_of(("tea", "nut")), choices.below(16)) for line in range(choices.below(2) + 1)]
        return (word, ref, day, purse, tuple(lines))
    if word == "spend":
        first = [name for name in refs if choices.below(6) == 0][:8]
        return (word, ref, day, purse, points, tuple(first))
    if word == "back":
        return (word, ref, day, choices.one_of([name for name in refs if name != ref]))
    if word == "lend":
        return (word, ref, day, purse, choices.one_of(same), points, day + 1 + choices.below(7))
    return (word, ref, day, purse, choices.one_of(unlike if word == "change" else same), points)


def case_by(seed):
    choices = Choices(seed)
    book = book_by(choices)
    refs = [first + second for first in "abcdefgh" for second in ("", "b", "mm", "x", "z")]
    return book, [deed_by(choices, book, ref, refs) for ref in refs]


class WalkedBesideTheModel(unittest.TestCase):
    maxDiff = None

    def test_each_field(self):
        for seed in range(120):
            book, deeds = case_by(seed)
            for day in (LAST_DAY, seed % LAST_DAY):
                state = walked(book, deeds, day)
                model = Model(book, deeds, day)
                for field in FIELDS:
                    with self.subTest(seed=seed, day=day, field=field):
                        self.assertEqual(getattr(state, field), getattr(model, field))

    def test_the_points_of_each_source_add_up(self):
        for seed in range(120, 160):
            book, deeds = case_by(seed)
            state = walked(book, deeds, LAST_DAY)
            found = collections.Counter()
            for end in state.ends:
                found[end[0]] += end[5]
            for row in state.rows.values():
                for born, source, mark, points in row:
                    found[source] += points
            with self.subTest(seed=seed):
                self.assertEqual(+found, +collections.Counter({ref: told[3] for ref, told in state.earned.items()}))

    def test_what_came_as_debts_and_was_not_paid_is_still_owed(self):
        for seed in range(160, 200):
            book, deeds = case_by(seed)
            state = walked(book, deeds, LAST_DAY)
            with self.subTest(seed=seed):
                came = {ref: (purse, to, points) for ref, purse, to, day, points in state.owed}
                self.assertEqual(len(came), len(state.owed))
                for purse, debts in state.debts.items():
                    for ref, to, points in debts:
                        self.assertEqual(came[ref][:2], (purse, to))
                        self.assertLessEqual(points, came[ref][2])
                        if to == "":
                            paid = sum([end[5] for end in state.ends if end[1] == "paid" and end[3] == ref])
                            self.assertEqual(came[ref][2] - points, paid)


if __name__ == "__main__":
    unittest.main()
