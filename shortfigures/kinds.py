"""What kind of thing a value is."""


def is_within(value, low, high):
    """Tell whether a value is an integer from `low` to `high`."""
    # True and False are ints for Python, but no integers here.
    return isinstance(value, int) and not isinstance(value, bool) and low <= value <= high
