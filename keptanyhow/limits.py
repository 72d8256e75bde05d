"""Integers within limits, and the limits that several files share."""

# What 3 bytes can hold: the greatest stamp and the greatest period.
MOST_STAMP = 16777215
# One more than all stamps of all things together can ever be, with room to spare.
MOST_SUM = 4294967296
MOST_THINGS = 24
MOST_FREE_PAGES = 200
MOST_IMAGE = 250


def is_number(value, least, most):
    """Whether a value is an integer from least to most; True and False are none."""
    return isinstance(value, int) and not isinstance(value, bool) and least <= value <= most


def is_stamp(value):
    """Whether a value can be a stamp, or a period."""
    return is_number(value, 0, MOST_STAMP)


def is_thing(value):
    """Whether a value can be the number of a thing of some image."""
    return is_number(value, 0, MOST_THINGS - 1)


def is_page_number(value):
    """Whether a value can be the number of a page of some image."""
    return is_number(value, 0, MOST_IMAGE - 1)


def are_ascending(value, most):
    """Whether a value is an ascending tuple of unlike integers from 0 to most."""
    if not isinstance(value, tuple) or not all([is_number(item, 0, most) for item in value]):
        return False
    return all([one < other for one, other in zip(value, value[1:])])
