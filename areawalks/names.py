"""Which values are names."""

LETTERS_OF_NAMES = "abcdefghijklmnopqrstuvwxyz"
LONGEST_NAME = 8
BACK = "back"


def is_name(value):
    """Whether a value is a string of 1 to 8 letters from a to z."""
    # Stripped of these letters, a string of them is empty.
    return isinstance(value, str) and 1 <= len(value) <= LONGEST_NAME and value.strip(LETTERS_OF_NAMES) == ""


def is_walk_name(value):
    """Whether a value is a name that a walk can have."""
    return is_name(value) and value != BACK
