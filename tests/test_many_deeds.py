"""[12] to [15], [18] to [21], [23]: what holds of many deeds of all words, and beside plain models.

walked stands beside a model that walks every single day and moves every single point, ranks beside one that goes
through all days, lapses beside a walk to a far day, and a session beside the calls that it stands for.
"""

import collections
import copy
import unittest

from pointpurse.books import Book
from pointpurse.deedtext import deed_text
from pointpurse.earning import brings
from pointpurse.errors import NoDeed, NotOver, PurseError
from pointpurse.houses import House
from pointpurse.ledger import Ledger
from pointpurse.ranks import counted, next_fall, next_lapse, plain_rank, rank
from pointpurse.session import answers, statement
from pointpurse.stories import debt_of, story, sums
from pointpurse.walk import walked

LAST_DAY = 24
# Buys, spendings and lendings more often than the others, so that much is lent, spent and owed.
WORDS = ("buy",) * 5 + ("spend",) * 4 + ("lend",) * 4 + ("give", "change", "change", "back", "back")
FIELDS = ("day", "rows", "debts", "earned", "ends", "owed", "odds", "backs")
SUMMED = ("brought", "left", "spent", "lapsed", "taken", "paid", "changed")


def everything_of(state):
    """All that a State holds, its fields beyond [13], too."""
    return copy.deepcopy(vars(state))


class Model:
    """The State's fields, come to in the plainest way: a point is a list [purse, born, source, mark]."""

    def __init__(self, book, deeds, day):
        self.houses = {house.name: house for house in book.houses}
        self.house_names = dict(book.purses)
        self.rates = {(rate[0], rate[1]): (rate[2], rate[3]) for rate in book.rates}
        self.points = []
        self.debts = {purse: [] for purse in self.house_names}
        self.earned, self.ends, self.owed, self.odds, self.backs = {}, [], [], {}, {}
        self.stirs, self.lendings, self.lapsed_marks = {}, [], collections.Counter()
        for self.day in range(day + 1):
            self.morning()
            for deed in sorted([deed for deed in deeds if deed[2] == self.day], key=lambda deed: deed[1]):
                if deed[0] != "back":
                    self.stirs[deed[3]] = self.day
                if deed[0] in ("give", "lend", "change"):
                    self.stirs[deed[4]] = self.day
                getattr(self, deed[0])(*deed[1:])

    @property
    def rows(self):
        return {purse: self.row_of(self.held(purse)) for purse in self.house_names}

    def row_of(self, points):
        many = collections.Counter([tuple(point[1:]) for point in points])
        return sorted([key + (many[key],) for key in many])

    def house(self, purse):
        return self.houses[self.house_names[purse]]

    def held(self, purse):
        return sorted([point for point in self.points if point[0] == purse])

    def finish(self, points, what, purse, ref):
        for born, source, mark, many in self.row_of(points):
            self.ends.append((source, what, purse, ref, self.day, many))
        gone = set(map(id, points))
        self.points = [point for point in self.points if id(point) not in gone]

    def owe(self, purse, ref, to, many):
        if many > 0:
            self.debts[purse].append((ref, to, many))
            self.owed.append((ref, purse, to, self.day, many))

    def lapse(self, purse, points):
        self.lapsed_marks.update([point[3] for point in points])
        self.finish(points, "lapsed", purse, "")

    def morning(self):
        for ref, purse, other, end, many in sorted(self.lendings):
            if end == self.day:
                coming = [point for point in self.held(other) if point[3] == ref]
                for point in coming:
                    point[0], point[3] = purse, ""
                self.owe(other, ref, purse, many - len(coming) - self.lapsed_marks[ref])
        for purse in self.house_names:
            age = self.house(purse).age
            if age is not None:
                self.lapse(purse, [point for point in self.held(purse) if point[1] + age <= self.day])
        for purse in self.house_names:
            rest = self.house(purse).rest
            if rest is not None and purse in self.stirs and self.stirs[purse] + rest <= self.day:
                self.lapse(purse, self.held(purse))

    def draw(self, purse, many, first, own):
        piles = [point for point in self.held(purse) if not own or point[3] == ""]
        order = []
        for name in first:
            order.extend([point for point in piles if point[2] == name])
        order.extend([point for point in piles if point[2] not in first])
        return order[:many]

    def buy(self, ref, day, purse, lines):
        many = brings(self.house(purse), day, lines)
        if self.house(purse).cap is not None:
            ahead = sum([told[3] for told in self.earned.values() if told[:3] == ("buy", purse, day)])
            many = min(many, self.house(purse).cap - ahead)
        self.earned[ref] = ("buy", purse, day, many)
        left = []
        for debt, to, owed in self.debts[purse]:
            paid = min(owed, many)
            many -= paid
            if paid < owed:
                left.append((debt, to, owed - paid))
            if paid and to == "":
                self.ends.append((ref, "paid", purse, debt, day, paid))
            elif paid:
                self.points.extend([[to, day, ref, ""] for point in range(paid)])
        self.debts[purse] = left
        self.points.extend([[purse, day, ref, ""] for point in range(many)])

    def spend(self, ref, day, purse, many, first):
        points = self.draw(purse, many, first, False)
        self.finish(points, "spent", purse, ref)
        self.owe(purse, ref, "", many - len(points))

    def give(self, ref, day, purse, other, many):
        for point in self.draw(purse, many, (), True):
            point[0] = other

    def lend(self, ref, day, purse, other, many, end):
        points = self.draw(purse, many, (), True)
        for point in points:
            point[0], point[3] = other, ref
        self.lendings.append((ref, purse, other, end, len(points)))

    def change(self, ref, day, purse, other, many):
        points = self.draw(purse, many, (), True)
        self.finish(points, "changed", purse, ref)
        top, bottom = self.rates[(self.house_names[purse], self.house_names[other])]
        worth = len(points) * top + self.odds.get((purse, other), 0)
        self.earned[ref] = ("change", other, day, worth // bottom)
        self.odds[(purse, other)] = worth % bottom
        self.points.extend([[other, day, ref, ""] for point in range(worth // bottom)])

    def back(self, ref, day, of):
        if of in self.backs or self.earned.get(of, ("none",))[0] != "buy":
            return
        what, purse, bought, many = self.earned[of]
        points = [point for point in self.held(purse) if point[2] == of and point[3] == ""]
        self.finish(points, "taken", purse, ref)
        lapsed = sum([end[5] for end in self.ends if end[:2] == (of, "lapsed")])
        self.owe(purse, ref, "", many - len(points) - lapsed)
        self.backs[of] = day


class Choices:
    """Numbers that look like chance, but are the same in each run and under each Python."""

    def __init__(self, seed):
        self.number = seed * 2654435761 + 12345

    def below(self, many):
        self.number = (self.number * 6364136223846793005 + 1442695040888963407) & (1 << 64) - 1
        return (self.number >> 33) % many

    def one_of(self, values):
        return values[self.below(len(values))]


def book_by(choices):
    def house(name):
        return House(
            name, choices.one_of([(1, 1), (1, 2), (3, 2)]), [("tea", choices.below(4))], [(6, choices.below(5))],
            [(5, 9, 2)], choices.one_of([None, None, 12]), choices.one_of([None, None, 4, 9]),
            choices.one_of([None, None, 6]), [(5, "tin"), (12, "gold"), (20, "gold")], choices.below(9) + 1,
            choices.below(5),
        )

    rates = [("shop", "mill", choices.one_of([2, 3]), choices.one_of([1, 3, 5])), ("mill", "shop", 1, 2)]
    return Book(
        [house("shop"), house("mill")],
        [("dan", "mill"), ("bob", "shop"), ("ann", "shop"), ("eve", "mill"), ("cid", "shop")], rates,
    )


def deed_by(choices, book, ref, refs):
    houses = dict(book.purses)
    purse = choices.one_of(sorted(houses))
    same = sorted([other for other in houses if houses[other] == houses[purse] and other != purse])
    unlike = sorted([other for other in houses if houses[other] != houses[purse]])
    day = choices.below(LAST_DAY + 2)
    points = choices.below(9) + 1
    word = choices.one_of(WORDS)
    if word == "buy":
        lines = [(choices.one_of(("tea", "nut")), choices.below(16)) for line in range(choices.below(2) + 1)]
        return (word, ref, day, purse, tuple(lines))
    if word == "spend":
        first = [name for name in refs if choices.below(6) == 0][:8]
        return (word, ref, day, purse, points, tuple(first))
    if word == "back":
        return (word, ref, day, choices.one_of([name for name in refs if name != ref]))
    if word == "lend":
        return (word, ref, day, purse, choices.one_of(same), points, day + 1 + choices.below(7))
    return (word, ref, day, purse, choices.one_of(unlike if word == "change" else same), points)


def case_by(seed):
    choices = Choices(seed)
    book = book_by(choices)
    refs = [first + second for first in "abcdefgh" for second in ("", "b", "mm", "x", "z")]
    return book, [deed_by(choices, book, ref, refs) for ref in refs]


class WalkedBesideTheModel(unittest.TestCase):
    maxDiff = None

    def test_each_field(self):
        for seed in range(120):
            book, deeds = case_by(seed)
            for day in (LAST_DAY, seed % LAST_DAY):
                state = walked(book, deeds, day)
                model = Model(book, deeds, day)
                for field in FIELDS:
                    with self.subTest(seed=seed, day=day, field=field):
                        self.assertEqual(getattr(state, field), getattr(model, field))

    def test_the_points_of_each_source_add_up(self):
        for seed in range(120, 160):
            book, deeds = case_by(seed)
            state = walked(book, deeds, LAST_DAY)
            found = collections.Counter()
            for end in state.ends:
                found[end[0]] += end[5]
            for row in state.rows.values():
                for born, source, mark, points in row:
                    found[source] += points
            with self.subTest(seed=seed):
                self.assertEqual(+found, +collections.Counter({ref: told[3] for ref, told in state.earned.items()}))

    def test_what_came_as_debts_and_was_not_paid_is_still_owed(self):
        for seed in range(160, 200):
            book, deeds = case_by(seed)
            state = walked(book, deeds, LAST_DAY)
            with self.subTest(seed=seed):
                came = {ref: (purse, to, points) for ref, purse, to, day, points in state.owed}
                self.assertEqual(len(came), len(state.owed))
                for purse, debts in state.debts.items():
                    for ref, to, points in debts:
                        self.assertEqual(came[ref][:2], (purse, to))
                        self.assertLessEqual(points, came[ref][2])
                        if to == "":
                            paid = sum([end[5] for end in state.ends if end[1] == "paid" and end[3] == ref])
                            self.assertEqual(came[ref][2] - points, paid)


class StoriesAndSums(unittest.TestCase):
    maxDiff = None

    def test_each_story_adds_up_and_stands_sorted_without_alike_ones(self):
        for seed in range(60):
            book, deeds = case_by(seed)
            state = walked(book, deeds, LAST_DAY - seed % 9)
            kept = everything_of(state)
            for source, told in state.earned.items():
                with self.subTest(seed=seed, source=source):
                    places = story(state, source)
                    self.assertEqual(places, sorted(places))
                    self.assertEqual(sum([place[4] for place in places]), told[3])
                    self.assertTrue(all(place[4] >= 1 for place in places))
                    self.assertEqual(len(set([place[:4] for place in places])), len(places))
            self.assertEqual(everything_of(state), kept)

    def test_the_stories_of_a_house_add_up_to_its_sums(self):
        for seed in range(60, 120):
            book, deeds = case_by(seed)
            state = walked(book, deeds, LAST_DAY)
            houses = dict(book.purses)
            for name in ("shop", "mill"):
                expected = {word: 0 for word in SUMMED}
                for source, told in state.earned.items():
                    if houses[told[1]] == name:
                        expected["brought"] += told[3]
                        for what, purse, ref, day, points in story(state, source):
                            expected[what] += points
                with self.subTest(seed=seed, name=name):
                    numbers = sums(state, book, name)
                    self.assertEqual(numbers, expected)
                    self.assertEqual(numbers["brought"], sum([numbers[word] for word in SUMMED[1:]]))
                    rows = [row for purse, row in state.rows.items() if houses[purse] == name]
                    self.assertEqual(numbers["left"], sum([pile[3] for row in rows for pile in row]))

    def test_each_debt_that_came(self):
        for seed in range(120, 160):
            book, deeds = case_by(seed)
            state = walked(book, deeds, LAST_DAY)
            for ref, purse, to, day, points in state.owed:
                left = dict([(debt[0], debt[2]) for debt in state.debts[purse]]).get(ref, 0)
                with self.subTest(seed=seed, ref=ref):
                    self.assertEqual(debt_of(state, ref), (purse, to, points, left))


class RanksAndWhatComesOfItself(unittest.TestCase):
    """Ranks beside one that goes through all days; lapses beside a walk of the same deeds to a far day."""

    def count_by_model(self, state, house, purse, day):
        points = 0
        for ref, (word, owner, bought, brought) in state.earned.items():
            if word == "buy" and owner == purse and bought in range(day - house.span + 1, day + 1):
                if ref not in state.backs or day < state.backs[ref]:
                    points += brought
        return points

    def plain_rank_by_model(self, state, house, purse, day):
        points = self.count_by_model(state, house, purse, day)
        return len([pair for pair in house.ranks if pair[0] <= points])

    def rank_by_model(self, state, house, purse, day):
        days = [asked for asked in range(day - house.grace, day + 1) if asked >= 0]
        return max([self.plain_rank_by_model(state, house, purse, asked) for asked in days])

    def test_ranks_of_all_days(self):
        for seed in range(25):
            book, deeds = case_by(seed)
            houses = {house.name: house for house in book.houses}
            state = walked(book, deeds, LAST_DAY - seed % 7)
            for purse, name in book.purses:
                house = houses[name]
                for day in range(LAST_DAY + 15):
                    with self.subTest(seed=seed, purse=purse, day=day):
                        told = [asked(state, book, purse, day) for asked in (counted, plain_rank, rank)]
                        self.assertEqual(told, [
                            asked(state, house, purse, day)
                            for asked in (self.count_by_model, self.plain_rank_by_model, self.rank_by_model)
                        ])

    def test_falls(self):
        fallen = 0
        for seed in range(40):
            book, deeds = case_by(seed)
            houses = {house.name: house for house in book.houses}
            for day in range(seed % 3, LAST_DAY + 3, 3):
                state = walked(book, deeds, day)
                for purse, name in book.purses:
                    now = self.rank_by_model(state, houses[name], purse, day)
                    falls = [
                        later for later in range(day + 1, day + 20)
                        if self.rank_by_model(state, houses[name], purse, later) < now
                    ]
                    fallen += len(falls) > 0
                    with self.subTest(seed=seed, day=day, purse=purse):
                        self.assertEqual(next_fall(state, book, purse), falls[0] if falls else None)
        self.assertGreater(fallen, 100)

    def test_lapses(self):
        lapsed = 0
        for seed in range(80):
            book, deeds = case_by(seed)
            for day in range(seed % 4, LAST_DAY + 3, 4):
                state = walked(book, deeds, day)
                kept = everything_of(state)
                later = walked(book, [deed for deed in deeds if deed[2] <= day], day + 40)
                for purse, name in book.purses:
                    mine = [end for end in later.ends if end[1] == "lapsed" and end[2] == purse and end[4] > day]
                    first = min([end[4] for end in mine], default=None)
                    expected = (first, sum([end[5] for end in mine if end[4] == first])) if mine else None
                    lapsed += len(mine) > 0
                    with self.subTest(seed=seed, day=day, purse=purse):
                        self.assertEqual(next_lapse(state, book, purse), expected)
                self.assertEqual(everything_of(state), kept)
        self.assertGreater(lapsed, 200)


class Sessions(unittest.TestCase):
    """A session beside a ledger to which the same is told."""

    maxDiff = None

    def lines_of(self, book):
        lines = []
        for house in book.houses:
            maybe = ["-" if number is None else number for number in (house.cap, house.age, house.rest)]
            lines.append(("house", house.name, *house.share, *maybe, house.span, house.grace))
            for word, told in (
                ("kind", house.kinds), ("step", house.steps), ("double", house.doubles), ("rank", house.ranks)
            ):
                lines.extend([(word, house.name, *parts) for parts in told])
        lines.extend([("purse", *pair) for pair in book.purses])
        lines.extend([("rate", *rate) for rate in book.rates])
        return lines

    def calls_by(self, choices, book, deeds):
        """The deeds by their days, some of them late, with fixes and questions between them."""
        calls, today = [], 0
        refs = [deed[1] for deed in deeds]
        for place, deed in enumerate(sorted(deeds, key=lambda deed: (deed[2], deed[1]))):
            today = max(today, deed[2]) + choices.below(2)
            calls.append(("tell", max(0, today - choices.below(8) // 7), deed))
            if choices.below(6) == 0:
                fix = ("fix", "f" + "abcdefgh"[place % 8] * (place // 8 + 1), choices.one_of(refs), (("nut", 9),))
                calls.append(("tell", today, fix))
            purse, name = choices.one_of(book.purses)
            day = choices.below(LAST_DAY + 9)
            calls.append(choices.one_of([
                ("ask", purse, day), ("known", purse, day, choices.below(today + 2)), ("story", choices.one_of(refs), day),
                ("sums", name, day),
            ]))
        return calls

    def line_of(self, call):
        parts = [deed_text(part) if isinstance(part, tuple) else str(part) for part in call]
        return " ".join(parts)

    def told_to(self, ledger, word, *parts):
        try:
            if word == "tell":
                ledger.tell(parts[1], parts[0])
                return "done"
            if word == "ask":
                return statement(ledger.state(parts[1]), ledger.book, parts[0])
            if word == "known":
                return statement(ledger.state_known(parts[1], parts[2]), ledger.book, parts[0])
            if word == "sums":
                numbers = sums(ledger.state(parts[1]), ledger.book, parts[0])
                return " ".join([str(numbers[summed]) for summed in SUMMED])
            places = story(ledger.state(parts[1]), parts[0])
            return ", ".join([f"{what} {purse} {ref or '-'} {day} {many}" for what, purse, ref, day, many in places])
        except PurseError as refusal:
            self.assertTrue(word == "tell" or type(refusal) in (NoDeed, NotOver))
            return type(refusal).__name__

    def test_each_answer(self):
        seen = collections.Counter()
        for seed in range(40):
            book, deeds = case_by(seed)
            calls = self.calls_by(Choices(seed + 1000), book, deeds)
            ledger = Ledger(book)
            expected = [self.told_to(ledger, *call) for call in calls]
            text = "\n".join([self.line_of(call) for call in self.lines_of(book) + calls])
            with self.subTest(seed=seed):
                self.assertEqual(answers(text), expected)
            seen.update([told.split(" ")[0] for told in expected])
        # Refusals and answers of all sorts came; BadDeed and NoRate can't come here.
        for word in ("done", "Twice", "NoDeed", "WrongDay", "TooFew", "NotOver", "ann", "dan", "left", "spent", "0", ""):
            with self.subTest(word=word):
                self.assertGreater(seen[word], 0)


if __name__ == "__main__":
    unittest.main()
