"""Pages, and the tuples by which they are told (points 10 and 11)."""

from keptanyhow.errors import BadPage, BadTold
from keptanyhow.limits import MOST_FREE_PAGES, MOST_SUM, MOST_THINGS, is_number, is_page_number, is_stamp, is_thing
from keptanyhow.octets import (
    is_bytes, number_octets, octets_number, octets_text, octets_with_check, text_octets,
)
from keptanyhow.ways import is_contents

PAGE_BYTES = 64
# What is left of a page for all but its check.
TOLD_BYTES = 60
BLANK = (
    0, 0, 0, 0, 0, 0, 0, 0, 0, 0, 0, 0, 0, 0, 0, 0, 0, 0, 0, 0, 0, 0, 0, 0, 0, 0, 0, 0, 0, 0, 0, 0,
    0, 0, 0, 0, 0, 0, 0, 0, 0, 0, 0, 0, 0, 0, 0, 0, 0, 0, 0, 0, 0, 0, 0, 0, 0, 0, 0, 0, 0, 0, 0, 0,
)
BAD = ("bad",)
MOST_INDEX = 59
MOST_LENGTH = 1000
MOST_TAILS = 20
# The bytes of a card that its page holds, together with the numbers of its tails.
CARD_BYTES = 49
TAIL_BYTES = 54
PIECE_SIGNS = 50
MANY_ITEMS = {"blank": 1, "head": 5, "card": 7, "tail": 5, "data": 5}


def is_page(value):
    """Whether a value is a page."""
    return value is None or (is_bytes(value, PAGE_BYTES) and len(value) == PAGE_BYTES)


def are_tails(value, most):
    """Whether a value is a tuple of at most so many unlike numbers of pages."""
    if not isinstance(value, tuple) or len(value) > most or not all([is_page_number(item) for item in value]):
        return False
    return len(set(value)) == len(value)


def are_bytes(value, count):
    """Whether a value is just so many bytes."""
    return is_bytes(value, count) and len(value) == count


def is_told_head(told):
    """Whether a tuple of five items tells a head."""
    _, period, things, pages, total = told
    if not is_stamp(period) or not is_number(total, 0, MOST_SUM):
        return False
    return is_number(things, 1, MOST_THINGS) and is_number(pages, 0, MOST_FREE_PAGES)


def is_told_card(told):
    """Whether a tuple of seven items tells the page of a card."""
    _, thing, stamp, period, length, tails, some = told
    if not is_thing(thing) or not is_stamp(stamp) or not is_stamp(period):
        return False
    if not is_number(length, 0, MOST_LENGTH) or not are_tails(tails, MOST_TAILS):
        return False
    return are_bytes(some, CARD_BYTES - len(tails))


def is_told_tail(told):
    """Whether a tuple of five items tells a tail."""
    _, thing, stamp, index, some = told
    if not is_thing(thing) or not is_stamp(stamp) or not is_number(index, 0, MOST_INDEX):
        return False
    return are_bytes(some, TAIL_BYTES)


def is_told_data(told):
    """Whether a tuple of five items tells data."""
    _, thing, stamp, index, contents = told
    if not is_thing(thing) or not is_stamp(stamp) or not is_number(index, 0, MOST_INDEX):
        return False
    return is_contents(contents) and 1 <= len(contents) <= PIECE_SIGNS


def is_told(value):
    """Whether a value is a tuple by which a page is told, ("bad",) being none."""
    if not isinstance(value, tuple) or len(value) == 0 or not isinstance(value[0], str):
        return False
    if value[0] not in MANY_ITEMS or len(value) != MANY_ITEMS[value[0]]:
        return False
    if value[0] == "head":
        return is_told_head(value)
    if value[0] == "card":
        return is_told_card(value)
    if value[0] == "tail":
        return is_told_tail(value)
    return value[0] == "blank" or is_told_data(value)


def card_octets(told):
    """The bytes of the page of a card, without the check."""
    _, thing, stamp, period, length, tails, some = told
    ahead = (2, thing) + number_octets(stamp, 3) + number_octets(period, 3) + number_octets(length, 2)
    return ahead + (len(tails),) + tails + some


def told_octets(told):
    """The bytes of a page that is told, without those behind that are 0, and without the check."""
    if told[0] == "blank":
        return ()
    if told[0] == "head":
        return (1,) + number_octets(told[1], 3) + told[2:4] + number_octets(told[4], 5)
    if told[0] == "card":
        return card_octets(told)
    ahead = (told[1],) + number_octets(told[2], 3) + (told[3],)
    if told[0] == "tail":
        return (3,) + ahead + told[4]
    return (4,) + ahead + (len(told[4]),) + text_octets(told[4])


def page_by(told):
    """The page of a tuple that is known to tell one."""
    octets = told_octets(told)
    return octets_with_check(octets + (0,) * (TOLD_BYTES - len(octets)))


def guessed(page):
    """The only tuple that may tell a page of 64 bytes, whether it does or not."""
    stamp = octets_number(page[2:5])
    if page[0] == 0:
        return ("blank",)
    if page[0] == 1:
        return ("head", octets_number(page[1:4]), page[4], page[5], octets_number(page[6:11]))
    if page[0] == 2:
        behind = 11 + page[10]
        period = octets_number(page[5:8])
        length = octets_number(page[8:10])
        return ("card", page[1], stamp, period, length, page[11:behind], page[behind:TOLD_BYTES])
    if page[0] == 3:
        return ("tail", page[1], stamp, page[5], page[6:TOLD_BYTES])
    if page[0] == 4:
        return ("data", page[1], stamp, page[5], octets_text(page[7:7 + page[6]]))
    return BAD


def told_by(page):
    """The tuple that tells a value that is known to be a page."""
    # Most pages of most images are blank: this saves the work of all that is below.
    if page == BLANK:
        return ("blank",)
    if page is None or page != octets_with_check(page[:TOLD_BYTES]):
        return BAD
    told = guessed(page)
    # A byte that should be 0 shows only when the page is written again.
    return told if is_told(told) and page_by(told) == page else BAD


def written_page(told):
    """The page of a tuple that tells one."""
    if not is_told(told):
        raise BadTold("no tuple that tells a page")
    return page_by(told)


def told_page(page):
    """The tuple that tells a page, ("bad",) if there is none."""
    if not is_page(page):
        raise BadPage("no page")
    return told_by(page)
