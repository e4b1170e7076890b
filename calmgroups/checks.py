"""What integers, numbers and rows of numbers are; the other files ask here."""


def is_int(value):
    """Whether any value is an integer; to Python a bool is an int, here it is none."""
    return isinstance(value, int) and not isinstance(value, bool)


def is_number(value):
    """Whether any value is an integer from 0 on."""
    return is_int(value) and value >= 0


def is_number_below(value, bound):
    """Whether any value is an integer from 0 on that is less than bound."""
    return is_number(value) and value < bound


def is_tuple_of(value, length, fits):
    """Whether any value is a tuple of this length of which each part fits."""
    if not isinstance(value, tuple) or len(value) != length:
        return False
    return all([fits(part) for part in value])


def are_unlike(value, bound):
    """Whether any value is a tuple of numbers below bound, none twice."""
    if not isinstance(value, tuple) or not all([is_number_below(number, bound) for number in value]):
        return False
    return len(set(value)) == len(value)


def is_ascending(value, bound):
    """Whether any value is a tuple of numbers below bound, each more than the one ahead."""
    return are_unlike(value, bound) and sorted(value) == list(value)


def has_bool(value):
    """Whether any value is a bool or has one within."""
    if isinstance(value, (list, tuple)):
        return any([has_bool(part) for part in value])
    return isinstance(value, bool)


def plainly(value):
    """The value with plain tuples for those of a class of their own, also within."""
    if not isinstance(value, tuple):
        return value
    return tuple([plainly(part) for part in value])
