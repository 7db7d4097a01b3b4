"""Exact fractions: tuples (n, d) of integers in lowest terms with d >= 1."""

from math import gcd

ZERO = (0, 1)


def is_whole(value):
    """Whether value, of any kind, is an integer; True and False are none."""
    return isinstance(value, int) and not isinstance(value, bool)


def is_fraction(value):
    """Whether value, of any kind, is a fraction."""
    if not isinstance(value, tuple) or len(value) != 2:
        return False
    n, d = value
    return is_whole(n) and is_whole(d) and d >= 1 and gcd(n, d) == 1


def new_fraction(n, d=1):
    """n / d for integers; d is not 0, but may be below it."""
    common = gcd(n, d)
    if d < 0:
        common = -common
    return (n // common, d // common)


def sum_of(a, b):
    """a + b."""
    return new_fraction(a[0] * b[1] + b[0] * a[1], a[1] * b[1])


def rest_of(a, b):
    """a - b."""
    return new_fraction(a[0] * b[1] - b[0] * a[1], a[1] * b[1])


def product_of(a, b):
    """a times b."""
    return new_fraction(a[0] * b[0], a[1] * b[1])


def share_of(a, b):
    """a divided by b, which is not 0."""
    return new_fraction(a[0] * b[1], a[1] * b[0])


def order_of(a, b):
    """-1, 0 or 1, as a is less than, equal to or greater than b."""
    left = a[0] * b[1]
    right = b[0] * a[1]
    if left < right:
        return -1
    return 1 if left > right else 0


def floor_of(a):
    """The greatest integer not above a."""
    return a[0] // a[1]


def sign_of(a):
    """-1, 0 or 1, as a is below, at or above 0."""
    return order_of(a, ZERO)


def size_of(a):
    """a without its sign."""
    return (abs(a[0]), a[1])


def greater_of(a, b):
    """The greater one of a and b."""
    return b if order_of(a, b) < 0 else a


def least_of(values):
    """The least of these fractions; None if there are none."""
    least = None
    for value in values:
        if least is None or order_of(value, least) < 0:
            least = value
    return least


def ascending(values):
    """The indexes of these fractions in ascending order, those of equal ones as they stand."""
    found = []
    for k in range(len(values)):
        not_above = [other for other in found if order_of(values[other], values[k]) <= 0]
        found.insert(len(not_above), k)
    return found
