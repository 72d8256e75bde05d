"""Bytes, which are tuples of integers here, and their checks (points 8 and 9)."""

from keptanyhow.errors import BadBytes, BadContents, BadNumber
from keptanyhow.limits import is_number
from keptanyhow.ways import MOST_SIGNS, SIGNS, is_contents

MOST_BYTES = 4000
MOST_IN_NUMBER = 8
# What 8 bytes can hold.
MOST_NUMBER = 18446744073709551615
MOST_CHECKED = 250
CHECK_BYTES = 4
# A prime number above 256: so no change of one or two bytes leaves both sums as they were.
CHECK_PRIME = 257


def is_bytes(value, most):
    """Whether a value is bytes, at most so many of them."""
    if not isinstance(value, tuple) or len(value) > most:
        return False
    for item in value:
        # Written out instead of a call of is_number, as each page of an image comes by here.
        if not isinstance(item, int) or isinstance(item, bool) or not 0 <= item <= 255:
            return False
    return True


def check_bytes(some, most):
    """Raise BadBytes for a value that is no bytes, or more than so many."""
    if not is_bytes(some, most):
        raise BadBytes("no such bytes")


def number_octets(number, count):
    """The last bytes, so many of them, of an integer from 0 on."""
    found = []
    rest = number
    for _ in range(count):
        found.append(rest % 256)
        rest = rest // 256
    return tuple(found[::-1])


def octets_number(some):
    """The integer of some bytes, 0 for none."""
    number = 0
    for octet in some:
        number = number * 256 + octet
    return number


def text_octets(contents):
    """The codes of the signs of a string."""
    return tuple([ord(sign) for sign in contents])


def octets_text(some):
    """The string of some bytes, None if one of them is no code of a sign."""
    sign_of = {ord(sign): sign for sign in SIGNS}
    signs = [sign_of.get(octet) for octet in some]
    if None in signs:
        return None
    return "".join(signs)


def sums_of(some):
    """The check of some bytes."""
    plain = sum(some)
    weighed = sum([(at + 1) * octet for at, octet in enumerate(some)])
    return (plain % CHECK_PRIME, weighed % CHECK_PRIME)


def octets_with_check(some):
    """Some bytes and, behind them, their check."""
    plain, weighed = sums_of(some)
    return some + number_octets(plain, 2) + number_octets(weighed, 2)


def number_bytes(number, count):
    """So many bytes of an integer, the greatest first."""
    if not is_number(number, 0, MOST_NUMBER) or not is_number(count, 1, MOST_IN_NUMBER):
        raise BadNumber("no such number or count")
    some = number_octets(number, count)
    if octets_number(some) != number:
        raise BadNumber("the number does not fit")
    return some


def bytes_number(some):
    """The integer of 1 to 8 bytes."""
    check_bytes(some, MOST_BYTES)
    if not 1 <= len(some) <= MOST_IN_NUMBER:
        raise BadNumber("too many bytes, or none")
    return octets_number(some)


def text_bytes(contents):
    """The codes of the signs of contents."""
    if not is_contents(contents):
        raise BadContents("no contents")
    return text_octets(contents)


def bytes_text(some):
    """The contents of at most 2000 bytes that are all codes of signs."""
    check_bytes(some, MOST_SIGNS)
    text = octets_text(some)
    if text is None:
        raise BadBytes("no codes of signs")
    return text


def check(some):
    """The check of at most 250 bytes."""
    check_bytes(some, MOST_CHECKED)
    return sums_of(some)


def with_check(some):
    """At most 250 bytes and, behind them, their check."""
    check_bytes(some, MOST_CHECKED)
    return octets_with_check(some)


def without_check(some):
    """The bytes without the check behind them, None if it is not theirs."""
    check_bytes(some, MOST_CHECKED + CHECK_BYTES)
    if len(some) < CHECK_BYTES:
        return None
    plain = some[:-CHECK_BYTES]
    return plain if octets_with_check(plain) == some else None
