"""What several modules ask of values of any kind."""


def is_integer(value):
    """Return whether value is an integer; True and False are none."""
    return isinstance(value, int) and not isinstance(value, bool)


def is_within(value, low, high):
    """Return whether value is an integer from low to high."""
    return is_integer(value) and low <= value <= high


def is_tuple_of(value, many):
    """Return whether value is a tuple of so many items."""
    return isinstance(value, tuple) and len(value) == many


def first_fall(items):
    """Return the first place of an item that is not greater than the one ahead of it, None if there is none."""
    for place in range(1, len(items)):
        if items[place] <= items[place - 1]:
            return place
    return None


def chosen(items, bits):
    """Return the items at the places of which there is a bit."""
    return tuple([item for place, item in enumerate(items) if bits >> place & 1])
