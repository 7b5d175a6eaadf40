"""[10], with [1] and [2]: debts, and how they are paid off."""

import unittest

from pointpurse.debts import paid_off

MOST = 999999999999

# 4 + 3 + 6 points, to a purse and to the house; the refs are not in the order of texts.
DEBTS = [("s", "", 4), ("l", "bob", 3), ("b", "", 6)]


class PaidOff(unittest.TestCase):
    def assert_paid(self, payments, left, rest, debts, points):
        for form in (list(debts), tuple(debts)):
            with self.subTest(debts=form, points=points):
                self.assertEqual(paid_off(form, points), (payments, left, rest))
                self.assertEqual(list(form), list(debts))

    def test_no_points(self):
        self.assert_paid([], DEBTS, 0, DEBTS, 0)

    def test_no_debts(self):
        for points in (0, 1, 7, MOST):
            self.assert_paid([], [], points, [], points)

    def test_fewer_than_the_first_debt(self):
        self.assert_paid([("s", "", 1)], [("s", "", 3)] + DEBTS[1:], 0, DEBTS, 1)
        self.assert_paid([("s", "", 3)], [("s", "", 1)] + DEBTS[1:], 0, DEBTS, 3)

    def test_just_the_first_debt(self):
        self.assert_paid([("s", "", 4)], DEBTS[1:], 0, DEBTS, 4)

    def test_several_debts(self):
        self.assert_paid([("s", "", 4), ("l", "bob", 1)], [("l", "bob", 2), ("b", "", 6)], 0, DEBTS, 5)
        self.assert_paid(DEBTS[:2], DEBTS[2:], 0, DEBTS, 7)
        self.assert_paid(DEBTS[:2] + [("b", "", 5)], [("b", "", 1)], 0, DEBTS, 12)

    def test_all_and_more_than_all(self):
        self.assert_paid(DEBTS, [], 0, DEBTS, 13)
        self.assert_paid(DEBTS, [], 1, DEBTS, 14)
        self.assert_paid(DEBTS, [], MOST - 13, DEBTS, MOST)

    def test_one_debt(self):
        for to in ("", "bob"):
            self.assert_paid([], [("s", to, 2)], 0, [("s", to, 2)], 0)
            self.assert_paid([("s", to, 1)], [("s", to, 1)], 0, [("s", to, 2)], 1)
            self.assert_paid([("s", to, 2)], [], 0, [("s", to, 2)], 2)
            self.assert_paid([("s", to, 2)], [], 1, [("s", to, 2)], 3)

    def test_the_order_is_that_of_the_list(self):
        debts = [("z", "bob", 5), ("a", "", 5), ("m", "ann", 1), ("b", "ann", 9)]
        self.assert_paid([("z", "bob", 5), ("a", "", 5), ("m", "ann", 1), ("b", "ann", 1)], [("b", "ann", 8)], 0, debts, 12)
        backward = list(reversed(debts))
        self.assert_paid([("b", "ann", 9), ("m", "ann", 1), ("a", "", 2)], [("a", "", 3), ("z", "bob", 5)], 0, backward, 12)

    def test_debts_to_one_purse_stay_apart(self):
        debts = [("a", "bob", 2), ("b", "bob", 2), ("c", "", 2), ("d", "", 2)]
        self.assert_paid([("a", "bob", 2), ("b", "bob", 1)], [("b", "bob", 1), ("c", "", 2), ("d", "", 2)], 0, debts, 3)
        self.assert_paid(debts, [], 0, debts, 8)

    def test_numbers_of_twelve_figures(self):
        debts = [("s", "", MOST), ("l", "bob", MOST)]
        self.assert_paid([("s", "", MOST - 1)], [("s", "", 1), ("l", "bob", MOST)], 0, debts, MOST - 1)
        self.assert_paid([("s", "", MOST)], [("l", "bob", MOST)], 0, debts, MOST)

    def test_payments_only_where_something_was_paid(self):
        for points in range(0, 16):
            payments, left, rest = paid_off(DEBTS, points)
            with self.subTest(points=points):
                self.assertTrue(all(payment[2] >= 1 for payment in payments))
                self.assertTrue(all(debt[2] >= 1 for debt in left))
                self.assertEqual([payment[:2] for payment in payments], [debt[:2] for debt in DEBTS[:len(payments)]])

    def test_nothing_is_lost(self):
        for points in range(0, 16):
            payments, left, rest = paid_off(DEBTS, points)
            paid = sum(payment[2] for payment in payments)
            with self.subTest(points=points):
                self.assertEqual(paid + rest, points)
                self.assertEqual(paid + sum(debt[2] for debt in left), 13)

    def test_paid_bit_by_bit_the_same_is_owed_as_paid_at_once(self):
        for points in range(0, 16):
            for step in range(1, 6):
                left = DEBTS
                rest = 0
                ahead = points
                while ahead > 0:
                    told = paid_off(left, min(step, ahead))
                    left = told[1]
                    rest = rest + told[2]
                    ahead = ahead - min(step, ahead)
                with self.subTest(points=points, step=step):
                    self.assertEqual((left, rest), paid_off(DEBTS, points)[1:])

    def test_changing_what_was_told_changes_nothing(self):
        for debts in (DEBTS, []):
            for points in (0, 2, 4, 5, 13, 20):
                handed = list(debts)
                payments, left, rest = paid_off(handed, points)
                kept = (list(payments), list(left), rest)
                payments.append(("x", "", 1))
                self.assertEqual(left, kept[1])
                left.insert(0, ("y", "", 1))
                with self.subTest(debts=debts, points=points):
                    self.assertEqual(handed, debts)
                    self.assertEqual(paid_off(handed, points), kept)

    def test_changing_what_was_handed_in_does_not_change_what_was_told(self):
        for points in (0, 2, 5, 13):
            debts = list(DEBTS)
            told = paid_off(debts, points)
            kept = (list(told[0]), list(told[1]), told[2])
            debts.clear()
            self.assertEqual(told, kept)


if __name__ == "__main__":
    unittest.main()
