"""What an integer and a number are; the other files ask here."""


def is_int(value):
    """Whether any value is an integer; to Python a bool is an int, here it is none."""
    return isinstance(value, int) and not isinstance(value, bool)


def is_number_below(value, bound):
    """Whether any value is an integer from 0 on that is less than bound."""
    return is_int(value) and 0 <= value < bound
