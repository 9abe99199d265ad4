"""What any value is: checks that all parts share, which fail for no value.

A fault is told as a tuple: () where all is as told, otherwise (place,), as None may be a place.
"""


def is_integer_from(value, low, high):
    """Whether a value is an integer from low to high; True and False are none."""
    return isinstance(value, int) and not isinstance(value, bool) and low <= value <= high


def is_natural(value):
    """Whether a value is an integer from 0 on; True and False are none."""
    return isinstance(value, int) and not isinstance(value, bool) and value >= 0


def is_tuple_of(value, many):
    """Whether a value is a tuple of so many things."""
    return isinstance(value, tuple) and len(value) == many


def is_word_of(value, words):
    """Whether a value is one of some strings."""
    return isinstance(value, str) and value in words


def climb_fault(value, is_item):
    """The fault of what is no ascending tuple of items: None, or the number of the first wrong thing."""
    if not isinstance(value, tuple):
        return (None,)
    for number, item in enumerate(value):
        if not is_item(item):
            return (number,)
        if number > 0 and not value[number - 1] < item:
            return (number,)
    return ()


def plain(value):
    """The same value made of plain tuples, strings and integers: what is passed may be of classes below these."""
    if isinstance(value, tuple):
        return tuple([plain(item) for item in value])
    if value is None or isinstance(value, bool):
        return value
    return str(value) if isinstance(value, str) else int(value)
