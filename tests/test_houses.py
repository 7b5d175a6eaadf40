"""[4], with [1] and [2]: houses, what is refused, and that nothing handed in is changed or shared."""

import copy
import unittest

from pointpurse.errors import BadHouse
from pointpurse.houses import House

FIELDS = ("name", "share", "kinds", "steps", "doubles", "cap", "age", "rest", "ranks", "span", "grace")
LISTS = ("kinds", "steps", "doubles", "ranks")
MOST = 999999999999


def plain_fields():
    return {
        "name": "shop",
        "share": (1, 10),
        "kinds": [("tea", 2), ("cake", 3)],
        "steps": [(100, 5), (200, 12)],
        "doubles": [(10, 20, 2), (15, 30, 4)],
        "cap": 500,
        "age": 365,
        "rest": 90,
        "ranks": [(50, "bronze"), (150, "silver")],
        "span": 30,
        "grace": 7,
    }


def house_of_fields(fields):
    return House(*[fields[name] for name in FIELDS])


def house_with(**fields):
    return house_of_fields({**plain_fields(), **fields})


def fields_of(house):
    return {name: getattr(house, name) for name in FIELDS}


class WhatAHouseKeeps(unittest.TestCase):
    def assert_kept(self, house, fields):
        for name in FIELDS:
            asked = tuple(fields[name]) if name in LISTS else fields[name]
            with self.subTest(field=name):
                self.assertEqual(getattr(house, name), asked)
                self.assertIs(type(getattr(house, name)), type(asked))

    def test_every_field_is_kept_and_lists_as_tuples(self):
        self.assert_kept(house_with(), plain_fields())

    def test_fields_may_be_handed_in_by_their_names(self):
        self.assert_kept(House(**plain_fields()), plain_fields())

    def test_the_parts_of_the_lists_stay_tuples(self):
        house = house_with()
        self.assertEqual(house.kinds, (("tea", 2), ("cake", 3)))
        self.assertEqual(house.steps, ((100, 5), (200, 12)))
        self.assertEqual(house.doubles, ((10, 20, 2), (15, 30, 4)))
        self.assertEqual(house.ranks, ((50, "bronze"), (150, "silver")))

    def test_tuples_in_the_place_of_lists(self):
        fields = plain_fields()
        for name in LISTS:
            fields[name] = tuple(fields[name])
        self.assert_kept(house_of_fields(fields), fields)

    def test_a_house_made_again_of_its_own_fields(self):
        fields = fields_of(house_with())
        self.assertEqual(fields_of(house_of_fields(fields)), fields)

    def test_a_share_is_not_made_shorter(self):
        for share in ((6, 4), (10, 5), (0, 7), (3, 3)):
            with self.subTest(share=share):
                self.assertEqual(house_with(share=share).share, share)

    def test_two_houses_keep_their_own(self):
        one = house_with(name="one", kinds=[("tea", 2)], cap=1)
        other = house_with(name="other", kinds=[("nut", 9)], cap=None)
        self.assertEqual((one.name, one.kinds, one.cap), ("one", (("tea", 2),), 1))
        self.assertEqual((other.name, other.kinds, other.cap), ("other", (("nut", 9),), None))


class NothingHandedInIsChanged(unittest.TestCase):
    def test_what_was_handed_in_stays_as_it_was(self):
        fields = plain_fields()
        house_of_fields(fields)
        self.assertEqual(fields, plain_fields())

    def test_what_was_handed_in_unsorted_stays_as_it_was(self):
        kinds = [("tea", 2), ("cake", 3), ("apple", 1)]
        doubles = [(15, 30, 4), (10, 20, 2), (0, 5, 9)]
        handed = copy.deepcopy((kinds, doubles))
        house = house_with(kinds=kinds, doubles=doubles)
        self.assertEqual((kinds, doubles), handed)
        self.assertEqual((list(house.kinds), list(house.doubles)), handed)

    def test_a_change_behind_it_changes_nothing(self):
        fields = plain_fields()
        house = house_of_fields(fields)
        before = fields_of(house)
        fields["kinds"].append(("nut", 7))
        fields["steps"][0] = (1, 99)
        fields["doubles"].clear()
        fields["ranks"].pop()
        self.assertEqual(fields_of(house), before)
        self.assertEqual(before, fields_of(house_with()))

    def test_a_refusal_leaves_what_was_handed_in_as_it_was(self):
        fields = plain_fields()
        fields["grace"] = -1
        handed = copy.deepcopy(fields)
        with self.assertRaises(BadHouse):
            house_of_fields(fields)
        self.assertEqual(fields, handed)


class WhatIsLetIn(unittest.TestCase):
    def assert_taken(self, **fields):
        house = house_with(**fields)
        for name, value in fields.items():
            with self.subTest(field=name, value=value):
                self.assertEqual(getattr(house, name), tuple(value) if name in LISTS else value)

    def test_each_field_at_its_least(self):
        for name, value in (
            ("name", "a"), ("share", (0, 1)), ("kinds", [("a", 0)]), ("steps", [(0, 0)]),
            ("doubles", [(0, 0, 1)]), ("cap", 0), ("age", 1), ("rest", 1),
            ("ranks", [(1, "a")]), ("span", 1), ("grace", 0),
        ):
            self.assert_taken(**{name: value})

    def test_all_fields_at_their_least_at_once(self):
        self.assert_taken(
            name="a", share=(0, 1), kinds=[], steps=[], doubles=[], cap=0, age=1, rest=1, ranks=[], span=1, grace=0
        )

    def test_cap_age_and_rest_may_each_be_none(self):
        for name in ("cap", "age", "rest"):
            self.assert_taken(**{name: None})
        self.assert_taken(cap=None, age=None, rest=None)

    def test_cap_age_and_rest_may_each_be_a_number(self):
        for name in ("cap", "age", "rest"):
            for value in (1, 2, 100, MOST):
                self.assert_taken(**{name: value})

    def test_empty_lists(self):
        for name in LISTS:
            self.assert_taken(**{name: []})
            self.assert_taken(**{name: ()})

    def test_lists_of_eight(self):
        names = ["a", "b", "c", "d", "e", "f", "g", "abcdefgh"]
        self.assert_taken(kinds=[(name, place) for place, name in enumerate(names)])
        self.assert_taken(steps=[(place, 7 - place) for place in range(8)])
        self.assert_taken(doubles=[(place, 2 * place, 1 + place) for place in range(8)])
        self.assert_taken(ranks=[(place + 1, name) for place, name in enumerate(names)])

    def test_numbers_of_twelve_figures(self):
        self.assert_taken(
            share=(MOST, MOST), kinds=[("tea", MOST)], steps=[(MOST - 1, MOST), (MOST, MOST)],
            doubles=[(MOST, MOST, MOST), (0, MOST, 1)], cap=MOST, age=MOST, rest=MOST,
            ranks=[(MOST - 1, "gold"), (MOST, "gold")], span=MOST, grace=MOST,
        )

    def test_names_of_eight_letters(self):
        self.assert_taken(name="abcdefgh", kinds=[("stuvwxyz", 1)], ranks=[(1, "platinum")])

    def test_a_name_may_stand_for_house_kind_and_title(self):
        self.assert_taken(name="tea", kinds=[("tea", 1)], ranks=[(1, "tea")])

    def test_titles_may_be_alike(self):
        self.assert_taken(ranks=[(1, "gold"), (2, "gold"), (9, "gold")])

    def test_factors_and_extras_may_be_alike_or_fall(self):
        self.assert_taken(kinds=[("tea", 5), ("cake", 5), ("nut", 0)])
        self.assert_taken(steps=[(0, 9), (1, 9), (2, 0)])

    def test_doubles_may_overlap_be_alike_or_last_a_single_day(self):
        self.assert_taken(doubles=[(10, 20, 2), (15, 25, 3), (12, 13, 9)])
        self.assert_taken(doubles=[(10, 20, 2), (10, 20, 2)])
        self.assert_taken(doubles=[(7, 7, 5), (0, 0, 1)])
        self.assert_taken(doubles=[(30, 40, 2), (1, 2, 3)])


class WhatIsRefused(unittest.TestCase):
    def assert_refused(self, field, values):
        for value in values:
            with self.subTest(field=field, value=value), self.assertRaises(BadHouse):
                house_with(**{field: value})
            if field in LISTS:
                with self.subTest(field=field, value=tuple(value)), self.assertRaises(BadHouse):
                    house_with(**{field: tuple(value)})

    def test_a_name_that_is_none(self):
        self.assert_refused("name", ("", "abcdefghi", "Shop", "shop1", "my shop", "shop\n", " shop", "a`", "z{"))

    def test_a_share_with_a_top_too_low(self):
        self.assert_refused("share", ((-1, 10), (-MOST, 1)))

    def test_a_share_with_a_bottom_too_low(self):
        self.assert_refused("share", ((1, 0), (0, 0), (1, -1), (0, -MOST), (-1, -1)))

    def test_a_kind_that_is_no_name(self):
        for kind in ("", "abcdefghi", "Tea", "tea2", "green tea", "tea\n"):
            self.assert_refused("kinds", ([(kind, 1)], [("nut", 1), (kind, 1)], [(kind, 1), ("nut", 1)]))

    def test_a_kind_told_twice(self):
        self.assert_refused("kinds", (
            [("tea", 1), ("tea", 1)],
            [("tea", 1), ("tea", 2)],
            [("tea", 1), ("cake", 2), ("tea", 3)],
            [("nut", 0), ("tea", 1), ("cake", 2), ("tea", 1)],
        ))

    def test_a_kind_with_a_factor_too_low(self):
        self.assert_refused("kinds", (
            [("tea", -1)], [("tea", -MOST)], [("tea", -1), ("cake", 2)], [("tea", 2), ("cake", -1)],
        ))

    def test_leasts_of_steps_too_low(self):
        self.assert_refused("steps", ([(-1, 5)], [(-5, 1), (3, 2)], [(-2, 1), (-1, 2)]))

    def test_leasts_of_steps_that_do_not_rise(self):
        self.assert_refused("steps", (
            [(5, 1), (5, 2)], [(5, 1), (5, 1)], [(0, 1), (0, 2)], [(5, 1), (4, 2)], [(5, 9), (4, 8)],
            [(1, 1), (5, 2), (5, 3)], [(1, 1), (5, 2), (3, 3)], [(5, 1), (1, 2), (7, 3)], [(1, 1), (1, 2), (2, 3)],
        ))

    def test_a_step_with_an_extra_too_low(self):
        self.assert_refused("steps", ([(5, -1)], [(5, -1), (6, 2)], [(5, 2), (6, -1)], [(0, -MOST)]))

    def test_a_double_with_its_days_turned_about(self):
        self.assert_refused("doubles", (
            [(11, 10, 2)], [(1, 0, 1)], [(20, 1, 2)], [(1, 5, 2), (6, 5, 2)], [(6, 5, 2), (1, 5, 2)],
        ))

    def test_a_double_with_a_day_that_is_none(self):
        self.assert_refused("doubles", ([(-1, 5, 2)], [(-1, 0, 2)], [(-3, -2, 2)], [(0, -1, 2)], [(1, 5, 2), (-1, 5, 2)]))

    def test_a_double_with_a_factor_too_low(self):
        self.assert_refused("doubles", ([(1, 5, 0)], [(1, 5, -1)], [(1, 5, 2), (1, 5, 0)], [(1, 5, 0), (1, 5, 2)]))

    def test_leasts_of_ranks_too_low(self):
        self.assert_refused("ranks", ([(0, "gold")], [(-1, "gold")], [(0, "gold"), (5, "star")]))

    def test_leasts_of_ranks_that_do_not_rise(self):
        self.assert_refused("ranks", (
            [(5, "gold"), (5, "star")], [(5, "gold"), (5, "gold")], [(5, "gold"), (4, "star")],
            [(1, "tin"), (5, "gold"), (5, "star")], [(1, "tin"), (5, "gold"), (3, "star")],
            [(5, "tin"), (1, "gold"), (7, "star")], [(1, "tin"), (1, "gold"), (2, "star")],
        ))

    def test_a_title_that_is_no_name(self):
        for title in ("", "abcdefghi", "Gold", "gold1", "old gold", "gold\n"):
            self.assert_refused("ranks", ([(5, title)], [(5, title), (6, "gold")], [(5, "gold"), (6, title)]))

    def test_a_cap_too_low(self):
        self.assert_refused("cap", (-1, -MOST))

    def test_an_age_too_low(self):
        self.assert_refused("age", (0, -1))

    def test_a_rest_too_low(self):
        self.assert_refused("rest", (0, -1))

    def test_a_span_too_low(self):
        self.assert_refused("span", (0, -1))

    def test_a_grace_too_low(self):
        self.assert_refused("grace", (-1, -MOST))


if __name__ == "__main__":
    unittest.main()
