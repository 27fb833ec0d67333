"""The forms that all checks of values are built of."""


def is_integer(value, least, greatest):
    """Whether any value is an integer from least to greatest; True and False are none."""
    return type(value) is int and least <= value <= greatest


def is_tuple(value, least, greatest):
    """Whether any value is a tuple with a length from least to greatest; a list is none."""
    return type(value) is tuple and least <= len(value) <= greatest


def ascends(parts, index):
    """Whether the part at an index is greater than the one before it.

    Ask this only of parts that are known to have the right form: Python compares not all values.
    """
    return index == 0 or parts[index - 1] < parts[index]


def set_of(rows):
    """The set of the rows of a list: a strictly ascending tuple."""
    return tuple(sorted(set(rows)))
