"""Questions about plain values, each of which judges any value."""


def is_name(value):
    """True for a text of 1 to 8 letters from a to z."""
    if not isinstance(value, str) or not 1 <= len(value) <= 8:
        return False
    return all(["a" <= letter <= "z" for letter in value])


def is_whole(value, low, high):
    """True for an integer from low to high; a flag is no integer."""
    return isinstance(value, int) and not isinstance(value, bool) and low <= value <= high


def has_items(value, count):
    """True for a tuple of count items."""
    return isinstance(value, tuple) and len(value) == count


def are_names(values):
    """True if the items of a list or tuple are names and no two of them are equal."""
    # Only names go into the set: other items may be lists, which no set can hold.
    return all([is_name(value) for value in values]) and len(set(values)) == len(values)
