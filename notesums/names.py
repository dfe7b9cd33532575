"""The forms of NAMES, and of dicts from NAMES to NAMES. A KEY is a NAME."""

LETTERS = "abcdefghijklmnopqrstuvwxyz"
CHARACTERS = "abcdefghijklmnopqrstuvwxyz0123456789"
LONGEST = 8


def is_name(value):
    """Whether any value is a NAME."""
    if not isinstance(value, str) or not 1 <= len(value) <= LONGEST:
        return False
    return value[0] in LETTERS and all([character in CHARACTERS for character in value])


def maps_names(value):
    """Whether any value is a dict from NAMES to NAMES."""
    if not isinstance(value, dict):
        return False
    return all([is_name(old) and is_name(new) for old, new in value.items()])
