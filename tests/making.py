"""Images that are made page by page."""

from keptanyhow.cards import card_pages, tails_needed
from keptanyhow.images import new_image
from keptanyhow.pages import written_page

TOP = 2 ** 24 - 1
BLANK = (0,) * 64


def put(image, number, page):
    """An image with another page."""
    return image[:number] + (page,) + image[number + 1:]


def put_told(image, number, *told):
    """An image with a page that is told by a tuple."""
    return put(image, number, written_page(told))


def put_card(image, thing, side, card, tails=()):
    """An image with a card on a side."""
    image = put(image, 2 + 2 * thing + side, card_pages(thing, card, tails)[0])
    for tail, page in zip(tails, card_pages(thing, card, tails)[1:]):
        image = put(image, tail, page)
    return image


def none(stamp, period, needs=()):
    return (stamp, period, "none", (), 0, (), needs)


def folder(stamp, period, *places, needs=()):
    return (stamp, period, "folder", places, 0, (), needs)


def file(stamp, period, places, length=0, parts=(), needs=()):
    return (stamp, period, "file", places, length, parts, needs)


def put_head(image, number, period, things, pages, total):
    return put_told(image, number, "head", period, things, pages, total)


def headed(image, things, pages, total, period=5):
    """An image with a head of a period on page 0."""
    return put_head(image, 0, period, things, pages, total)


def base(things=6, pages=8, period=5):
    """A new image, but for its period."""
    return headed(new_image((things, pages)), things, pages, 0, period)


def wide(many):
    """The card of a file that needs so many tails, from 1 to 3, without parts."""
    places = tuple([(0, "abcdefg" + letter) for letter in "abcdefgh"])
    needs = tuple([(0, 0)] + [(number, 0) for number in range(1, 23)])
    card = file(1, 1, places[:4 * many], 0, (), needs[:many * 8])
    assert tails_needed(card) == many
    return card
