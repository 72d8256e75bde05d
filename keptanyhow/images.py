"""Images, writes, and what is kept of them (points 15 to 17)."""

from keptanyhow.cards import pages_of_card
from keptanyhow.errors import BadImage, BadKeeping, BadNumber, BadSize, BadWrites
from keptanyhow.limits import MOST_FREE_PAGES, MOST_IMAGE, MOST_THINGS, is_number
from keptanyhow.pages import BLANK, is_page, page_by

HEADS = 2
SIDES = 2
FEWEST_PAGES = 4
MOST_WRITES = 2000
MOST_NUMBERS = 300
# What tells, in a keeping, that a page keeps what it had, and that it cannot be read.
HAD = 0
LOST = -1


def is_size(value):
    """Whether a value is a size."""
    if not isinstance(value, tuple) or len(value) != 2:
        return False
    return is_number(value[0], 1, MOST_THINGS) and is_number(value[1], 0, MOST_FREE_PAGES)


def check_size(size):
    """Raise BadSize for a value that is no size."""
    if not is_size(size):
        raise BadSize("no size")


def first_free(things):
    """The number of the first page that is free for all, of an image of so many things."""
    return HEADS + SIDES * things


def side_page(thing, side):
    """The number of the page that is a side of a thing."""
    return HEADS + SIDES * thing + side


def check_image(image):
    """Raise BadImage for a value that is no image."""
    if not isinstance(image, tuple) or not FEWEST_PAGES <= len(image) <= MOST_IMAGE:
        raise BadImage("no image")
    if not all([is_page(page) for page in image]):
        raise BadImage("an item is no page")


def is_write(value, many):
    """Whether a value is a write to one of so many pages."""
    if not isinstance(value, tuple) or len(value) != 2 or not is_number(value[0], 0, many - 1):
        return False
    return value[1] is not None and is_page(value[1])


def check_writes(writes, many):
    """Raise BadWrites for a value that is no writes to so many pages."""
    if not isinstance(writes, tuple) or len(writes) > MOST_WRITES:
        raise BadWrites(None)
    for index, write in enumerate(writes):
        if not is_write(write, many):
            raise BadWrites(index)


def pages_put(writes):
    """For each number of a page that is written, in ascending order, the list of the pages that are put there."""
    numbers = sorted({write[0] for write in writes})
    found = {number: [] for number in numbers}
    for write in writes:
        found[write[0]].append(write[1])
    return found


def image_behind(image, writes):
    """The image behind some writes, both being known to be right."""
    pages = list(image)
    for number, page in writes:
        pages[number] = page
    return tuple(pages)


def check_keeping(writes, keeping):
    """Raise BadKeeping for a value that is no keeping of writes that are known to be such."""
    times = [len(pages) for pages in pages_put(writes).values()]
    if not isinstance(keeping, tuple) or len(keeping) != len(times):
        raise BadKeeping(None)
    for index, many in enumerate(times):
        if not is_number(keeping[index], LOST, many):
            raise BadKeeping(index)


def image_kept(image, writes, keeping):
    """The image that a keeping leaves, all of these being known to be right."""
    left = list(image)
    put = pages_put(writes)
    for number, choice in zip(list(put), keeping):
        if choice == LOST:
            left[number] = None
        elif choice != HAD:
            left[number] = put[number][choice - 1]
    return tuple(left)


def keeping_told(writes, numbers):
    """The keeping that numbers tell, both being known to be right."""
    found = []
    for index, pages in enumerate(pages_put(writes).values()):
        found.append(numbers[index % len(numbers)] % (len(pages) + 2) - 1)
    return tuple(found)


def are_numbers(value):
    """Whether a value is a tuple of 1 to 300 integers from 0 on."""
    if not isinstance(value, tuple) or not 1 <= len(value) <= MOST_NUMBERS:
        return False
    return all([isinstance(item, int) and not isinstance(item, bool) and item >= 0 for item in value])


def new_image(size):
    """The image of a size on which nothing is."""
    check_size(size)
    pages = [page_by(("head", 0, size[0], size[1], 0)), BLANK]
    for thing in range(size[0]):
        kind = "folder" if thing == 0 else "none"
        pages += pages_of_card(thing, (0, 0, kind, (), 0, (), ()), ())
        pages.append(BLANK)
    return tuple(pages + [BLANK] * size[1])


def put_all(image, writes):
    """The image behind the writes, one after another."""
    check_image(image)
    check_writes(writes, len(image))
    return image_behind(image, writes)


def written_numbers(writes):
    """The ascending tuple of the numbers of the pages that are written."""
    check_writes(writes, MOST_IMAGE)
    return tuple(list(pages_put(writes)))


def times_written(writes):
    """How often each of the pages that are written is written."""
    check_writes(writes, MOST_IMAGE)
    return tuple([len(pages) for pages in pages_put(writes).values()])


def kept(image, writes, keeping):
    """The image that is left when a keeping tells what of the writes is kept."""
    check_image(image)
    check_writes(writes, len(image))
    check_keeping(writes, keeping)
    return image_kept(image, writes, keeping)


def count_keepings(writes):
    """The number of all keepings of writes."""
    check_writes(writes, MOST_IMAGE)
    count = 1
    for pages in pages_put(writes).values():
        count = count * (len(pages) + 2)
    return count


def keeping_by(writes, numbers):
    """The keeping whose integers are told by the rests of numbers, taken again and again."""
    check_writes(writes, MOST_IMAGE)
    if not are_numbers(numbers):
        raise BadNumber("no tuple of numbers")
    return keeping_told(writes, numbers)
