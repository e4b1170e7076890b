"""Ratios (a, b) in lowest terms, which stand for a / b, and rows of integers that they solve."""

from math import gcd

from calmgroups.checks import is_int


def lowest(a, b):
    """The ratio that stands for a / b, where b is not 0."""
    common = gcd(a, b) if b > 0 else -gcd(a, b)
    return (a // common, b // common)


def is_ratio(value):
    """Whether any value is a ratio."""
    if not isinstance(value, tuple) or len(value) != 2:
        return False
    a, b = value
    return is_int(a) and is_int(b) and b > 0 and gcd(a, b) == 1


def total(ratios):
    """The ratio that these come to together."""
    a, b = 0, 1
    for one, other in ratios:
        a, b = lowest(a * other + one * b, b * other)
    return (a, b)


def solved(rows):
    """The ratios that solve n rows of n integers and what they come to; None if not just one does."""
    n = len(rows)
    left = list(rows)
    for k in range(n):
        heads = [at for at in range(k, n) if left[at][k] != 0]
        if len(heads) == 0:
            return None
        head = left[heads[0]]
        others = [_without(left[at], head, k) for at in range(n) if at != heads[0]]
        left = others[:k] + [head] + others[k:]
    return tuple([lowest(left[k][n], left[k][k]) for k in range(n)])


def _without(row, head, k):
    """The row, as many times as needed, less the head, so that it has 0 at k."""
    return [one * head[k] - other * row[k] for one, other in zip(row, head)]
