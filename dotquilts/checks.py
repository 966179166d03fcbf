"""Questions about any values, whatever they are; none of them raises an error."""


def is_number(thing):
    """Whether a value is an integer: True and False are none."""
    return isinstance(thing, int) and not isinstance(thing, bool)


def is_number_to(thing, least, most):
    """Whether a value is an integer from least to most."""
    return isinstance(thing, int) and not isinstance(thing, bool) and least <= thing <= most


def is_bit(thing):
    """Whether a value is the integer 0 or 1."""
    return isinstance(thing, int) and not isinstance(thing, bool) and 0 <= thing <= 1


def are_plain_words(bits, things):
    """Whether all items are plainly words of so many bits; what is none plainly has to be looked at more closely.

    Nearly all rows are right, and found to be so at once.
    """
    return not [thing for thing in things if type(thing) is not int or thing >> bits]


def is_row(thing):
    """Whether a value is a list or a tuple."""
    return isinstance(thing, (list, tuple))


def is_dot(thing, many):
    """Whether a value is a dot of a square with so many rows and columns."""
    if not isinstance(thing, tuple) or len(thing) != 2:
        return False
    return is_number_to(thing[0], 0, many - 1) and is_number_to(thing[1], 0, many - 1)
