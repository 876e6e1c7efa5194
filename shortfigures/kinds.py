"""What kind of thing a value is."""


def is_integer(value):
    """Tell whether a value is an integer."""
    # True and False are ints for Python, but no integers here.
    return isinstance(value, int) and not isinstance(value, bool)


def is_within(value, low, high):
    """Tell whether a value is an integer from `low` to `high`."""
    return is_integer(value) and low <= value <= high


def is_from_zero(value):
    """Tell whether a value is an integer from 0 on, without an end."""
    return is_integer(value) and value >= 0
