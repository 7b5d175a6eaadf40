"""[5], with [1] and [2]: what a buying brings."""

import unittest

from pointpurse.earning import brings, day_factor, extra_of, weighed
from pointpurse.houses import House

MOST = 999999999999


def house_with(share=(1, 1), kinds=(), steps=(), doubles=(), cap=None, age=None, rest=None, ranks=(), span=30, grace=0):
    return House("shop", share, kinds, steps, doubles, cap, age, rest, ranks, span, grace)


def fields_of(house):
    return [
        house.name, house.share, house.kinds, house.steps, house.doubles, house.cap,
        house.age, house.rest, house.ranks, house.span, house.grace,
    ]


def lines_of_money(*moneys):
    return [("tea", money) for money in moneys]


class LinesTestCase(unittest.TestCase):
    def assert_tells(self, asked, ask, house, *parts):
        """Ask with lines, the last part, as a list and as a tuple: both tell the same and stay as they were."""
        ahead = parts[:-1]
        lines = list(parts[-1])
        before = fields_of(house)
        with self.subTest(lines=lines, ahead=ahead):
            self.assertEqual(ask(house, *ahead, lines), asked)
            self.assertEqual(lines, list(parts[-1]))
            self.assertEqual(ask(house, *ahead, tuple(lines)), asked)
            self.assertIs(type(ask(house, *ahead, lines)), int)
            self.assertEqual(fields_of(house), before)


class Weighed(LinesTestCase):
    house = house_with(kinds=[("tea", 3), ("cake", 0), ("nut", 10), ("rice", 1)])

    def test_kinds_that_the_house_tells(self):
        self.assert_tells(150, weighed, self.house, [("tea", 50)])
        self.assert_tells(70, weighed, self.house, [("nut", 7)])
        self.assert_tells(9, weighed, self.house, [("rice", 9)])

    def test_a_kind_of_factor_nought_weighs_nothing(self):
        self.assert_tells(0, weighed, self.house, [("cake", 50)])
        self.assert_tells(6, weighed, self.house, [("cake", 50), ("tea", 2)])

    def test_a_kind_that_the_house_does_not_tell_counts_once(self):
        self.assert_tells(50, weighed, self.house, [("milk", 50)])
        self.assert_tells(51, weighed, self.house, [("te", 20), ("teas", 31)])

    def test_the_lines_are_added_up(self):
        self.assert_tells(154, weighed, self.house, [("tea", 40), ("milk", 4), ("nut", 3), ("cake", 99)])

    def test_a_kind_may_stand_twice(self):
        self.assert_tells(90, weighed, self.house, [("tea", 10), ("tea", 20)])
        self.assert_tells(90, weighed, self.house, [("tea", 15), ("tea", 15)])
        self.assert_tells(30, weighed, self.house, [("milk", 10), ("cake", 5), ("milk", 20)])

    def test_no_money(self):
        self.assert_tells(0, weighed, self.house, [("tea", 0)])
        self.assert_tells(0, weighed, self.house, [("milk", 0), ("nut", 0)])

    def test_a_house_without_kinds(self):
        self.assert_tells(70, weighed, house_with(kinds=[]), [("tea", 50), ("cake", 20)])

    def test_the_last_of_eight_kinds_and_eight_lines(self):
        house = house_with(kinds=[(letter, place + 2) for place, letter in enumerate("abcdefgh")])
        self.assert_tells(9, weighed, house, [("h", 1)])
        self.assert_tells(44, weighed, house, [(letter, 1) for letter in "abcdefgh"])

    def test_great_numbers_are_told_whole(self):
        house = house_with(kinds=[("tea", MOST)])
        self.assert_tells(999999999998000000000002, weighed, house, [("tea", MOST), ("milk", 1)])

    def test_steps_doubles_and_share_do_not_count(self):
        house = house_with(kinds=[("tea", 2)], share=(7, 3), steps=[(0, 100)], doubles=[(0, 99, 5)])
        self.assert_tells(20, weighed, house, [("tea", 10)])


class ExtraOf(LinesTestCase):
    house = house_with(kinds=[("tea", 5)], steps=[(10, 3), (20, 8), (50, 4)])

    def test_at_the_leasts_and_beside_them(self):
        for money, extra in ((0, 0), (9, 0), (10, 3), (11, 3), (19, 3), (20, 8), (21, 8), (49, 8), (50, 4), (51, 4)):
            self.assert_tells(extra, extra_of, self.house, [("milk", money)])

    def test_the_last_step_counts_though_an_earlier_one_has_more(self):
        self.assert_tells(4, extra_of, self.house, [("milk", 1000)])

    def test_factors_do_not_count(self):
        self.assert_tells(0, extra_of, self.house, [("tea", 9)])
        self.assert_tells(3, extra_of, self.house, [("tea", 10)])
        self.assert_tells(8, extra_of, house_with(kinds=[("tea", 0)], steps=[(20, 8)]), [("tea", 20)])

    def test_the_money_of_all_lines_counts_together(self):
        self.assert_tells(3, extra_of, self.house, [("milk", 5), ("nut", 5)])
        self.assert_tells(0, extra_of, self.house, [("milk", 5), ("nut", 4)])
        self.assert_tells(8, extra_of, self.house, [("tea", 10), ("tea", 10)])
        self.assert_tells(8, extra_of, self.house, [("tea", 6), ("milk", 7), ("nut", 7)])

    def test_no_steps(self):
        self.assert_tells(0, extra_of, house_with(steps=[]), [("milk", 1000)])

    def test_a_step_of_least_nought_is_always_reached(self):
        house = house_with(steps=[(0, 7), (1, 2)])
        self.assert_tells(7, extra_of, house, [("milk", 0)])
        self.assert_tells(2, extra_of, house, [("milk", 1)])

    def test_an_extra_of_nought_behind_another(self):
        house = house_with(steps=[(1, 7), (5, 0)])
        self.assert_tells(7, extra_of, house, [("milk", 4)])
        self.assert_tells(0, extra_of, house, [("milk", 5)])

    def test_the_last_of_eight_steps(self):
        house = house_with(steps=[(place + 1, 10 * place) for place in range(8)])
        self.assert_tells(60, extra_of, house, [("milk", 7)])
        self.assert_tells(70, extra_of, house, [("milk", 8)])

    def test_great_numbers(self):
        house = house_with(steps=[(MOST, MOST)])
        self.assert_tells(0, extra_of, house, [("milk", MOST - 1)])
        self.assert_tells(MOST, extra_of, house, [("milk", MOST - 1), ("nut", 1)])


class DayFactor(unittest.TestCase):
    def assert_factors(self, house, factors):
        for day, factor in factors:
            with self.subTest(day=day):
                self.assertEqual(day_factor(house, day), factor)

    def test_at_the_first_and_last_day_and_beside_them(self):
        house = house_with(doubles=[(10, 20, 3)])
        self.assert_factors(house, ((0, 1), (9, 1), (10, 3), (11, 3), (19, 3), (20, 3), (21, 1), (1000, 1)))

    def test_a_single_day(self):
        self.assert_factors(house_with(doubles=[(7, 7, 4)]), ((6, 1), (7, 4), (8, 1)))

    def test_day_nought(self):
        self.assert_factors(house_with(doubles=[(0, 0, 6)]), ((0, 6), (1, 1)))

    def test_the_greatest_of_several_on_one_day(self):
        doubles = [(10, 20, 2), (15, 30, 5), (18, 40, 3)]
        asked = ((9, 1), (10, 2), (14, 2), (15, 5), (18, 5), (20, 5), (30, 5), (31, 3), (40, 3), (41, 1))
        self.assert_factors(house_with(doubles=doubles), asked)
        self.assert_factors(house_with(doubles=doubles[::-1]), asked)

    def test_alike_factors_count_once(self):
        self.assert_factors(house_with(doubles=[(1, 5, 2), (1, 5, 2), (3, 4, 2)]), ((1, 2), (3, 2), (5, 2)))

    def test_doubles_with_a_gap_between(self):
        house = house_with(doubles=[(1, 3, 2), (6, 9, 3)])
        self.assert_factors(house, ((3, 2), (4, 1), (5, 1), (6, 3)))

    def test_a_factor_of_one(self):
        self.assert_factors(house_with(doubles=[(1, 3, 1)]), ((0, 1), (2, 1)))

    def test_no_doubles(self):
        self.assert_factors(house_with(doubles=[]), ((0, 1), (15, 1)))

    def test_great_days_and_factors(self):
        house = house_with(doubles=[(MOST - 1, MOST, MOST)])
        self.assert_factors(house, ((MOST - 2, 1), (MOST - 1, MOST), (MOST, MOST)))

    def test_the_house_stays_as_it_was(self):
        house = house_with(doubles=[(15, 30, 4), (10, 20, 2)])
        before = fields_of(house)
        day_factor(house, 16)
        self.assertEqual(fields_of(house), before)


class Brings(LinesTestCase):
    def test_an_ordinary_buying(self):
        house = house_with(share=(3, 10), kinds=[("tea", 2)], steps=[(50, 4)], doubles=[(5, 6, 3)])
        lines = [("tea", 50), ("cake", 20)]
        self.assert_tells(40, brings, house, 4, lines)
        self.assert_tells(120, brings, house, 5, lines)
        self.assert_tells(120, brings, house, 6, lines)
        self.assert_tells(40, brings, house, 7, lines)

    def test_the_rest_of_the_division_is_left_out(self):
        house = house_with(share=(1, 4))
        for money, points in ((0, 0), (3, 0), (4, 1), (7, 1), (8, 2), (11, 2)):
            self.assert_tells(points, brings, house, 1, [("tea", money)])

    def test_the_lines_are_divided_together(self):
        house = house_with(share=(1, 4))
        self.assert_tells(1, brings, house, 1, lines_of_money(3, 3))
        self.assert_tells(3, brings, house, 1, lines_of_money(3, 3, 3, 3))

    def test_the_top_counts_ahead_of_the_division(self):
        house = house_with(share=(3, 4))
        self.assert_tells(3, brings, house, 1, [("tea", 5)])
        self.assert_tells(5, brings, house, 1, [("tea", 7)])

    def test_the_kinds_factor_counts_ahead_of_the_division(self):
        house = house_with(share=(1, 4), kinds=[("tea", 3)])
        self.assert_tells(5, brings, house, 1, [("tea", 7)])

    def test_the_days_factor_counts_behind_the_division(self):
        house = house_with(share=(1, 4), doubles=[(1, 1, 3)])
        self.assert_tells(3, brings, house, 1, [("tea", 7)])
        self.assert_tells(0, brings, house, 1, [("tea", 3)])

    def test_the_extra_counts_behind_the_division_and_is_multiplied(self):
        house = house_with(share=(5, 4), steps=[(7, 2)], doubles=[(1, 1, 3)])
        self.assert_tells(30, brings, house, 1, [("tea", 7)])
        self.assert_tells(10, brings, house, 2, [("tea", 7)])
        self.assert_tells(7, brings, house, 2, [("tea", 6)])

    def test_the_step_is_reached_by_money_not_by_weight(self):
        house = house_with(kinds=[("tea", 10), ("cake", 0)], steps=[(20, 1000)])
        self.assert_tells(190, brings, house, 1, [("tea", 19)])
        self.assert_tells(1200, brings, house, 1, [("tea", 20)])
        self.assert_tells(1000, brings, house, 1, [("cake", 20)])

    def test_a_share_of_top_nought_leaves_the_extra(self):
        house = house_with(share=(0, 3), steps=[(10, 6)], doubles=[(2, 2, 2)])
        self.assert_tells(0, brings, house, 1, [("tea", 9)])
        self.assert_tells(6, brings, house, 1, [("tea", 10)])
        self.assert_tells(12, brings, house, 2, [("tea", 10)])

    def test_no_money_brings_the_extra_of_least_nought(self):
        house = house_with(steps=[(0, 5)], doubles=[(2, 2, 2)])
        self.assert_tells(5, brings, house, 1, [("tea", 0)])
        self.assert_tells(10, brings, house, 2, [("tea", 0)])

    def test_the_greatest_double_counts_alone(self):
        house = house_with(doubles=[(1, 5, 2), (1, 5, 3)])
        self.assert_tells(30, brings, house, 3, [("tea", 10)])

    def test_the_cap_does_not_count_here(self):
        for cap in (0, 1, 99, None):
            house = house_with(cap=cap)
            self.assert_tells(100, brings, house, 1, [("tea", 100)])

    def test_age_rest_ranks_span_and_grace_do_not_count(self):
        house = house_with(age=1, rest=1, ranks=[(1, "gold")], span=1, grace=9)
        self.assert_tells(100, brings, house, 500, [("tea", 100)])

    def test_great_numbers_are_told_whole(self):
        house = house_with(share=(MOST, 7), kinds=[("tea", MOST)], steps=[(MOST, 1)], doubles=[(0, 9, MOST)])
        plain = MOST * MOST * MOST // 7
        self.assert_tells((plain + 1) * MOST, brings, house, 9, [("tea", MOST)])
        self.assert_tells(plain + 1, brings, house, 10, [("tea", MOST)])

    def test_eight_lines(self):
        house = house_with(share=(1, 2), kinds=[("tea", 3)], steps=[(8, 1)])
        self.assert_tells(13, brings, house, 1, lines_of_money(1, 1, 1, 1, 1, 1, 1, 1))


if __name__ == "__main__":
    unittest.main()
