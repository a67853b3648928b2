"""Checks of arguments of any kind."""


def is_number(value, low, high):
    """Say whether a value is an integer within limits; booleans are not integers."""
    return isinstance(value, int) and not isinstance(value, bool) and low <= value <= high


def are_numbers(value, low, high):
    """Say whether a value is a tuple of integers within limits."""
    return isinstance(value, tuple) and all([is_number(item, low, high) for item in value])


def is_ascending(value, count):
    """Say whether a value is an ascending tuple of indices below a count."""
    if not isinstance(value, tuple):
        return False
    low = 0
    for item in value:
        if not is_number(item, low, count - 1):
            return False
        low = item + 1
    return True
