"""Which values are integers and whole numbers."""

from areawalks.errors import BadNumber


def is_integer(value):
    """Whether a value is an int, but no bool."""
    return isinstance(value, int) and not isinstance(value, bool)


def is_whole(value):
    """Whether a value is an integer from 0 on."""
    return is_integer(value) and value >= 0


def check_integer(value):
    """Refuses what is not an integer."""
    if not is_integer(value):
        raise BadNumber(value)


def check_from(value, least):
    """Refuses what is not an integer from the least one on."""
    if not is_integer(value) or value < least:
        raise BadNumber(value)


def check_whole(value):
    """Refuses what is not an integer from 0 on."""
    check_from(value, 0)
