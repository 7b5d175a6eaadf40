"""Debts: tuples (ref, to, points), paid in the order in which they came."""


def paid_off(debts, points):
    """The tuple (payments, left, rest) when debts are paid, in their order, with so many points."""
    payments = []
    left = []
    rest = points
    for ref, to, owed in debts:
        paid = min(rest, owed)
        rest = rest - paid
        if paid > 0:
            payments.append((ref, to, paid))
        if paid < owed:
            left.append((ref, to, owed - paid))
    return (payments, left, rest)
