"""The three hands, and the orders in which they can be told."""

from handspaces.errors import BadOrder, NoHand

HANDS = ("a", "b", "c")
ORDERS = ("abc", "acb", "bac", "bca", "cab", "cba")


def check_hand(hand):
    """Raise an error unless a value is a hand."""
    if hand not in HANDS:
        raise NoHand(hand)


def check_order(order):
    """Raise an error unless a value is a string of the three hands in any order."""
    if order not in ORDERS:
        raise BadOrder(order)
