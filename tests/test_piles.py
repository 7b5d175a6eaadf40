"""[8] and [9], with [1] and [2]: rows of piles, laid, counted, drawn and aged."""

import itertools
import unittest

from pointpurse.piles import aged, drawn, laid, sum_of

MOST = 999999999999

# Own piles of two sources, and lent ones between them; 4 + 5 + 3 + 6 + 2 + 7 points.
MIXED = [
    (1, "tea", "", 4), (1, "tea", "loan", 5), (2, "nut", "", 3), (2, "nut", "loan", 6), (3, "tea", "", 2),
    (9, "rice", "", 7),
]
OWN = [(1, "a", "", 4), (2, "b", "", 3), (2, "c", "", 5), (10, "a", "", 6)]
LENT = [(1, "a", "l", 4), (2, "b", "k", 3)]


def forms_of(values):
    """The same values as a list and as a tuple."""
    return [list(values), tuple(values)]


class PilesTestCase(unittest.TestCase):
    def assert_tells(self, expected, ask, lists, parts):
        """Ask with the lists in each form: the same is told, and they stay as they were.

        parts turns the lists into all arguments.
        """
        for forms in itertools.product(*[forms_of(values) for values in lists]):
            with self.subTest(ask=ask.__name__, arguments=parts(*forms)):
                self.assertEqual(ask(*parts(*forms)), expected)
                self.assertEqual([list(form) for form in forms], [list(values) for values in lists])

    def assert_row(self, row):
        keys = [pile[:3] for pile in row]
        self.assertIs(type(row), list)
        self.assertEqual(row, sorted(row))
        self.assertEqual(len(keys), len(set(keys)))
        for pile in row:
            self.assertIs(type(pile), tuple)
            self.assertGreaterEqual(pile[3], 1)


class Laid(PilesTestCase):
    def assert_laid(self, expected, row, piles):
        self.assert_tells(expected, laid, (row, piles), lambda row, piles: (row, piles))

    def test_into_an_empty_row(self):
        self.assert_laid([(3, "a", "", 5)], [], [(3, "a", "", 5)])
        self.assert_laid([(0, "b", "", 1), (3, "a", "", 5)], [], [(3, "a", "", 5), (0, "b", "", 1)])

    def test_no_piles(self):
        self.assert_laid([], [], [])
        self.assert_laid(MIXED, MIXED, [])

    def test_ahead_between_and_behind(self):
        row = [(2, "b", "", 1), (4, "b", "", 2)]
        self.assert_laid([(1, "x", "", 9)] + row, row, [(1, "x", "", 9)])
        self.assert_laid([row[0], (3, "x", "", 9), row[1]], row, [(3, "x", "", 9)])
        self.assert_laid(row + [(5, "x", "", 9)], row, [(5, "x", "", 9)])

    def test_sorted_by_born_then_source_then_mark(self):
        row = [(2, "b", "k", 1)]
        self.assert_laid([(2, "a", "z", 9), (2, "b", "k", 1)], row, [(2, "a", "z", 9)])
        self.assert_laid([(2, "b", "", 9), (2, "b", "k", 1)], row, [(2, "b", "", 9)])
        self.assert_laid([(2, "b", "k", 1), (2, "b", "l", 9)], row, [(2, "b", "l", 9)])
        self.assert_laid([(1, "z", "z", 9), (2, "b", "k", 1)], row, [(1, "z", "z", 9)])
        self.assert_laid([(2, "b", "k", 1), (2, "ba", "", 9)], row, [(2, "ba", "", 9)])

    def test_days_are_sorted_as_numbers(self):
        self.assert_laid([(9, "b", "", 1), (10, "a", "", 2)], [(9, "b", "", 1)], [(10, "a", "", 2)])
        self.assert_laid([(2, "a", "", 1), (10, "a", "", 2), (MOST, "a", "", 3)], [],
                         [(MOST, "a", "", 3), (10, "a", "", 2), (2, "a", "", 1)])

    def test_one_born_source_and_mark_is_one_pile(self):
        self.assert_laid([(3, "a", "", 7)], [(3, "a", "", 5)], [(3, "a", "", 2)])
        self.assert_laid([(3, "a", "l", 7)], [(3, "a", "l", 5)], [(3, "a", "l", 2)])
        self.assert_laid([(3, "a", "", 7)], [], [(3, "a", "", 5), (3, "a", "", 2)])
        self.assert_laid([(3, "a", "", 8)], [(3, "a", "", 5)], [(3, "a", "", 2), (3, "a", "", 1)])
        self.assert_laid([(3, "a", "", 10)], [(3, "a", "", 5)], [(3, "a", "", 5)])

    def test_alike_piles_all_count(self):
        self.assert_laid([(3, "a", "", 15)], [], [(3, "a", "", 5), (3, "a", "", 5), (3, "a", "", 5)])

    def test_another_born_source_or_mark_is_another_pile(self):
        row = [(3, "b", "", 5)]
        self.assert_laid([(3, "b", "", 5), (4, "b", "", 5)], row, [(4, "b", "", 5)])
        self.assert_laid([(3, "a", "", 5), (3, "b", "", 5)], row, [(3, "a", "", 5)])
        self.assert_laid([(3, "b", "", 5), (3, "b", "l", 5)], row, [(3, "b", "l", 5)])

    def test_points_do_not_part_piles_nor_sort_them(self):
        self.assert_laid([(3, "a", "", 9), (3, "b", "", 1)], [(3, "b", "", 1)], [(3, "a", "", 9)])

    def test_numbers_of_twelve_figures(self):
        self.assert_laid([(3, "a", "", 2 * MOST)], [(3, "a", "", MOST)], [(3, "a", "", MOST)])

    def test_piles_in_any_order(self):
        piles = [(2, "b", "", 1), (1, "a", "l", 2), (2, "b", "", 3), (1, "a", "", 4)]
        row = [(1, "a", "", 10), (2, "b", "k", 20), (7, "c", "", 30)]
        into_empty = [(1, "a", "", 4), (1, "a", "l", 2), (2, "b", "", 4)]
        into_row = [(1, "a", "", 14), (1, "a", "l", 2), (2, "b", "", 4), (2, "b", "k", 20), (7, "c", "", 30)]
        for order in itertools.permutations(piles):
            self.assert_laid(into_empty, [], order)
            self.assert_laid(into_row, row, order)

    def test_what_is_told_is_a_row(self):
        for row in ([], MIXED, OWN, LENT):
            for piles in ([], MIXED, list(reversed(MIXED)), OWN + OWN, LENT + MIXED):
                with self.subTest(row=row, piles=piles):
                    self.assert_row(laid(row, piles))
                    self.assertEqual(sum_of(laid(row, piles), False), sum([pile[3] for pile in row + piles]))

    def test_changing_what_was_told_changes_nothing(self):
        for row, piles in (([], []), (MIXED, []), ([], OWN), (OWN, MIXED)):
            handed = list(row)
            more = list(piles)
            told = laid(handed, more)
            kept = list(told)
            told.append((5, "x", "", 1))
            told.insert(0, (0, "x", "", 1))
            with self.subTest(row=row, piles=piles):
                self.assertEqual(handed, row)
                self.assertEqual(more, piles)
                self.assertEqual(laid(handed, more), kept)

    def test_changing_what_was_handed_in_does_not_change_what_was_told(self):
        for row, piles in ((MIXED, []), ([], OWN), (OWN, MIXED)):
            handed = list(row)
            more = list(piles)
            told = laid(handed, more)
            kept = list(told)
            handed.clear()
            more.clear()
            self.assertEqual(told, kept)

    def test_what_was_told_may_be_handed_in_again(self):
        told = laid(laid(laid([], [(3, "a", "", 1)]), [(1, "b", "", 2)]), [(3, "a", "", 4)])
        self.assertEqual(told, [(1, "b", "", 2), (3, "a", "", 5)])
        self.assertEqual(laid(told, told), [(1, "b", "", 4), (3, "a", "", 10)])


class SumOf(PilesTestCase):
    def assert_sums(self, in_all, of_own, row):
        self.assert_tells(in_all, sum_of, (row,), lambda row: (row, False))
        self.assert_tells(of_own, sum_of, (row,), lambda row: (row, True))

    def test_an_empty_row(self):
        self.assert_sums(0, 0, [])

    def test_without_marks(self):
        self.assert_sums(18, 18, OWN)

    def test_with_marks(self):
        self.assert_sums(7, 0, LENT)

    def test_mixed(self):
        self.assert_sums(27, 16, MIXED)

    def test_a_single_pile(self):
        self.assert_sums(1, 1, [(0, "a", "", 1)])
        self.assert_sums(1, 0, [(0, "a", "a", 1)])

    def test_numbers_of_twelve_figures(self):
        self.assert_sums(2 * MOST, MOST, [(0, "a", "", MOST), (0, "a", "l", MOST)])


class DrawnTestCase(PilesTestCase):
    def assert_drawn(self, taken, left, row, points, first, own):
        self.assert_tells(
            (taken, left), drawn, (row, first), lambda row, first: (row, points, first, own),
        )


class Drawn(DrawnTestCase):
    def test_no_points(self):
        for own in (True, False):
            self.assert_drawn([], MIXED, MIXED, 0, [], own)
            self.assert_drawn([], MIXED, MIXED, 0, ["nut", "tea"], own)

    def test_an_empty_row(self):
        for own in (True, False):
            for points in (0, 1, 50):
                self.assert_drawn([], [], [], points, [], own)
                self.assert_drawn([], [], [], points, ["tea"], own)

    def test_the_eldest_come_first(self):
        for own in (True, False):
            self.assert_drawn([(1, "a", "", 1)], [(1, "a", "", 3)] + OWN[1:], OWN, 1, [], own)
            self.assert_drawn([(1, "a", "", 3)], [(1, "a", "", 1)] + OWN[1:], OWN, 3, [], own)
            self.assert_drawn([(1, "a", "", 4)], OWN[1:], OWN, 4, [], own)
            self.assert_drawn([(1, "a", "", 4), (2, "b", "", 1)], [(2, "b", "", 2)] + OWN[2:], OWN, 5, [], own)
            self.assert_drawn(OWN[:2], OWN[2:], OWN, 7, [], own)

    def test_all_and_one_less_and_more(self):
        for own in (True, False):
            for first in ([], ["a"], ["c", "b"]):
                self.assert_drawn(OWN, [], OWN, 18, first, own)
                self.assert_drawn(OWN, [], OWN, 19, first, own)
                self.assert_drawn(OWN, [], OWN, MOST, first, own)
        self.assert_drawn(OWN[:3] + [(10, "a", "", 5)], [(10, "a", "", 1)], OWN, 17, [], True)
        self.assert_drawn(OWN[:3] + [(10, "a", "", 5)], [(10, "a", "", 1)], OWN, 17, [], False)

    def test_one_pile_alone(self):
        for points in range(0, 8):
            taken = [(3, "a", "", min(points, 5))] if points > 0 else []
            left = [(3, "a", "", 5 - points)] if points < 5 else []
            for first in ([], ["a"], ["b"], ["b", "a"]):
                for own in (True, False):
                    self.assert_drawn(taken, left, [(3, "a", "", 5)], points, first, own)

    def test_numbers_of_twelve_figures(self):
        row = [(0, "a", "", MOST), (MOST, "b", "", MOST)]
        self.assert_drawn([(0, "a", "", MOST - 1)], [(0, "a", "", 1), row[1]], row, MOST - 1, [], True)
        self.assert_drawn([row[1]], [row[0]], row, MOST, ["b"], True)


class DrawnByFirst(DrawnTestCase):
    def test_a_name_that_has_a_pile(self):
        self.assert_drawn([(2, "c", "", 2)], OWN[:2] + [(2, "c", "", 3), OWN[3]], OWN, 2, ["c"], True)
        self.assert_drawn([(2, "c", "", 5)], OWN[:2] + [OWN[3]], OWN, 5, ["c"], False)

    def test_a_name_that_has_several_piles(self):
        self.assert_drawn([(1, "a", "", 4), (10, "a", "", 2)], OWN[1:3] + [(10, "a", "", 4)], OWN, 6, ["a"], True)
        self.assert_drawn([(1, "a", "", 3)], [(1, "a", "", 1)] + OWN[1:], OWN, 3, ["a"], True)
        self.assert_drawn([OWN[0], OWN[3]], OWN[1:3], OWN, 10, ["a"], True)

    def test_behind_the_names_come_all_in_the_row_s_order(self):
        self.assert_drawn([(1, "a", "", 2), OWN[2]], [(1, "a", "", 2), OWN[1], OWN[3]], OWN, 7, ["c"], True)
        self.assert_drawn([OWN[0], (2, "b", "", 1), OWN[3]], [(2, "b", "", 2), OWN[2]], OWN, 11, ["a"], True)
        self.assert_drawn([(1, "a", "", 1), OWN[1], OWN[2]], [(1, "a", "", 3), OWN[3]], OWN, 9, ["c", "b"], True)

    def test_names_that_have_no_piles(self):
        self.assert_drawn([(1, "a", "", 1)], [(1, "a", "", 3)] + OWN[1:], OWN, 1, ["x"], True)
        self.assert_drawn([(2, "c", "", 1)], OWN[:2] + [(2, "c", "", 4), OWN[3]], OWN, 1, ["x", "c", "y"], True)
        self.assert_drawn([(1, "a", "", 4), (2, "b", "", 1)], [(2, "b", "", 2)] + OWN[2:], OWN, 5, ["x", "y"], True)

    def test_several_names_in_an_order_that_is_not_the_row_s(self):
        self.assert_drawn([OWN[2]], OWN[:2] + [OWN[3]], OWN, 5, ["c", "b", "a"], True)
        self.assert_drawn([(2, "b", "", 1), OWN[2]], [OWN[0], (2, "b", "", 2), OWN[3]], OWN, 6, ["c", "b", "a"], True)
        self.assert_drawn([(1, "a", "", 1), OWN[1], OWN[2]], [(1, "a", "", 3), OWN[3]], OWN, 9, ["c", "b", "a"], True)
        self.assert_drawn([OWN[1], (2, "c", "", 1)], [OWN[0], (2, "c", "", 4), OWN[3]], OWN, 4, ["b", "c"], True)

    def test_a_later_name_only_gets_what_is_still_wanted(self):
        self.assert_drawn([(2, "c", "", 4)], OWN[:2] + [(2, "c", "", 1), OWN[3]], OWN, 4, ["c", "a"], True)
        self.assert_drawn([(10, "a", "", 2), ], [(10, "a", "", 4)], [OWN[3]], 2, ["a", "b"], True)

    def test_all_names_of_the_row(self):
        for first in itertools.permutations(["a", "b", "c"]):
            self.assert_drawn(OWN, [], OWN, 18, first, False)

    def test_a_mark_is_not_a_source(self):
        row = [(1, "a", "b", 4), (2, "b", "", 3)]
        self.assert_drawn([(2, "b", "", 2)], [(1, "a", "b", 4), (2, "b", "", 1)], row, 2, ["b"], False)


class DrawnWithMarks(DrawnTestCase):
    def test_own_true_leaves_lent_piles_alone(self):
        self.assert_drawn([MIXED[0], (2, "nut", "", 1)], [MIXED[1], (2, "nut", "", 2)] + MIXED[3:], MIXED, 5, [], True)
        self.assert_drawn([MIXED[0], MIXED[2], MIXED[4], MIXED[5]], [MIXED[1], MIXED[3]], MIXED, 16, [], True)
        self.assert_drawn([MIXED[0], MIXED[2], MIXED[4], MIXED[5]], [MIXED[1], MIXED[3]], MIXED, 17, [], True)
        self.assert_drawn([MIXED[0], MIXED[2], MIXED[4], MIXED[5]], [MIXED[1], MIXED[3]], MIXED, 27, ["nut"], True)

    def test_own_false_draws_lent_piles_too(self):
        self.assert_drawn([MIXED[0], (1, "tea", "loan", 1)], [(1, "tea", "loan", 4)] + MIXED[2:], MIXED, 5, [], False)
        self.assert_drawn(MIXED, [], MIXED, 27, [], False)
        self.assert_drawn(MIXED[:5] + [(9, "rice", "", 6)], [(9, "rice", "", 1)], MIXED, 26, [], False)

    def test_first_with_own_true(self):
        self.assert_drawn([(2, "nut", "", 3)], MIXED[:2] + MIXED[3:], MIXED, 3, ["nut"], True)
        self.assert_drawn(
            [(1, "tea", "", 1), (2, "nut", "", 3)], [(1, "tea", "", 3), MIXED[1]] + MIXED[3:], MIXED, 4, ["nut"], True,
        )

    def test_first_with_own_false(self):
        self.assert_drawn(
            [(2, "nut", "", 3), (2, "nut", "loan", 1)], MIXED[:2] + [(2, "nut", "loan", 5)] + MIXED[4:],
            MIXED, 4, ["nut"], False,
        )
        self.assert_drawn(
            [MIXED[0], MIXED[1], MIXED[4], (9, "rice", "", 2)], [MIXED[2], MIXED[3], (9, "rice", "", 5)],
            MIXED, 13, ["tea", "rice"], False,
        )

    def test_a_row_of_lent_piles_alone(self):
        self.assert_drawn([], LENT, LENT, 3, [], True)
        self.assert_drawn([], LENT, LENT, 3, ["b"], True)
        self.assert_drawn([(2, "b", "k", 3)], [(1, "a", "l", 4)], LENT, 3, ["b"], False)


class WhatDrawnTells(DrawnTestCase):
    def test_taken_and_left_are_rows_and_together_the_row(self):
        firsts = [first for many in range(0, 4) for first in itertools.permutations(["tea", "nut", "rice"], many)]
        for points, first, own in itertools.product(range(0, 30), firsts, (True, False)):
            told = drawn(MIXED, points, first, own)
            with self.subTest(points=points, first=first, own=own):
                self.assertIs(type(told), tuple)
                self.assertEqual(len(told), 2)
                self.assert_row(told[0])
                self.assert_row(told[1])
                self.assertEqual(laid(told[1], told[0]), MIXED)
                self.assertEqual(sum_of(told[0], False), min(points, sum_of(MIXED, own)))
                if own:
                    self.assertEqual(sum_of(told[0], True), sum_of(told[0], False))

    def test_drawn_bit_by_bit_the_same_is_left_as_drawn_at_once(self):
        for first in ([], ["rice", "tea"], ["nut"]):
            for own in (True, False):
                left = MIXED
                for points in range(1, 30):
                    left = drawn(left, 1, first, own)[1]
                    self.assertEqual(left, drawn(MIXED, points, first, own)[1])

    def test_changing_what_was_told_changes_nothing(self):
        for points in (0, 5, 18, 30):
            row = list(OWN)
            first = ["c", "x"]
            taken, left = drawn(row, points, first, True)
            kept = (list(taken), list(left))
            taken.append((50, "x", "", 1))
            self.assertEqual(left, kept[1])
            left.insert(0, (0, "x", "", 1))
            with self.subTest(points=points):
                self.assertEqual(row, OWN)
                self.assertEqual(first, ["c", "x"])
                self.assertEqual(drawn(row, points, first, True), kept)

    def test_both_rows_of_an_empty_row_are_lists_of_their_own(self):
        row = []
        taken, left = drawn(row, 3, [], False)
        taken.append((1, "x", "", 1))
        self.assertEqual((row, left), ([], []))
        left.append((2, "x", "", 1))
        self.assertEqual((row, drawn(row, 3, [], False)), ([], ([], [])))

    def test_changing_what_was_handed_in_does_not_change_what_was_told(self):
        for points in (0, 5, 18, 30):
            row = list(OWN)
            first = ["c"]
            told = drawn(row, points, first, False)
            kept = (list(told[0]), list(told[1]))
            row.clear()
            first.append("a")
            self.assertEqual(told, kept)


class Aged(PilesTestCase):
    def assert_aged(self, gone, left, row, age, day):
        self.assert_tells((gone, left), aged, (row,), lambda row: (row, age, day))

    def test_no_age(self):
        for day in (0, 1, 10, MOST):
            self.assert_aged([], MIXED, MIXED, None, day)
            self.assert_aged([], [], [], None, day)

    def test_just_as_old_as_the_age_a_day_less_and_a_day_more(self):
        row = [(10, "a", "", 5)]
        self.assert_aged([], row, row, 7, 16)
        self.assert_aged(row, [], row, 7, 17)
        self.assert_aged(row, [], row, 7, 18)

    def test_an_age_of_one(self):
        row = [(10, "a", "", 5)]
        self.assert_aged([], row, row, 1, 10)
        self.assert_aged(row, [], row, 1, 11)
        self.assert_aged(row, [], row, 1, 12)

    def test_a_pile_of_day_nought(self):
        row = [(0, "a", "", 5)]
        self.assert_aged([], row, row, 3, 0)
        self.assert_aged([], row, row, 3, 2)
        self.assert_aged(row, [], row, 3, 3)

    def test_some_gone_and_some_left(self):
        self.assert_aged([], MIXED, MIXED, 5, 5)
        self.assert_aged(MIXED[:2], MIXED[2:], MIXED, 5, 6)
        self.assert_aged(MIXED[:4], MIXED[4:], MIXED, 5, 7)
        self.assert_aged(MIXED[:5], MIXED[5:], MIXED, 5, 8)
        self.assert_aged(MIXED[:5], MIXED[5:], MIXED, 5, 13)
        self.assert_aged(MIXED, [], MIXED, 5, 14)

    def test_days_ahead_of_the_piles_and_far_behind(self):
        self.assert_aged([], MIXED, MIXED, 1, 0)
        self.assert_aged([], MIXED, MIXED, 1, 1)
        self.assert_aged(MIXED, [], MIXED, 1, MOST)
        self.assert_aged([], MIXED, MIXED, MOST, 100)
        self.assert_aged([], [(50, "a", "", 1)], [(50, "a", "", 1)], 10, 20)

    def test_an_empty_row(self):
        for age in (1, 5, MOST):
            for day in (0, 5, MOST):
                self.assert_aged([], [], [], age, day)

    def test_numbers_of_twelve_figures(self):
        row = [(MOST - 1, "a", "", MOST)]
        self.assert_aged([], row, row, 1, MOST - 1)
        self.assert_aged(row, [], row, 1, MOST)

    def test_changing_what_was_told_changes_nothing(self):
        for age, day in ((None, 5), (5, 0), (5, 7), (5, 100)):
            row = list(MIXED)
            gone, left = aged(row, age, day)
            kept = (list(gone), list(left))
            gone.append((50, "x", "", 1))
            self.assertEqual(left, kept[1])
            left.insert(0, (0, "x", "", 1))
            with self.subTest(age=age, day=day):
                self.assertEqual(row, MIXED)
                self.assertEqual(aged(row, age, day), kept)

    def test_changing_what_was_handed_in_does_not_change_what_was_told(self):
        for age, day in ((None, 5), (5, 0), (5, 7), (5, 100)):
            row = list(MIXED)
            told = aged(row, age, day)
            kept = (list(told[0]), list(told[1]))
            row.clear()
            self.assertEqual(told, kept)

    def test_both_rows_of_an_empty_row_are_lists_of_their_own(self):
        for age in (None, 5):
            row = []
            gone, left = aged(row, age, 9)
            gone.append((1, "x", "", 1))
            self.assertEqual((row, left), ([], []))
            left.append((2, "x", "", 1))
            self.assertEqual((row, aged(row, age, 9)), ([], ([], [])))


if __name__ == "__main__":
    unittest.main()
