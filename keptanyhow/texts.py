"""Texts: trees, deeds and images as strings (point 45)."""

from keptanyhow.deeds import FORMS, check_deed, is_deed
from keptanyhow.errors import InvalidText, NotMade, NotText
from keptanyhow.images import FEWEST_PAGES, check_image
from keptanyhow.limits import MOST_IMAGE
from keptanyhow.pages import BLANK, PAGE_BYTES
from keptanyhow.trees import check_tree, first_wrong
from keptanyhow.ways import has_only

FILE_SIGN = " = "
SAME_SIGN = " > "
DEED_SIGN = " ; "
# What stands ahead of the only deed of a bundle.
LONE = "one"
FIGURES = "0123456789"
MOST_FIGURES = 4
HEX_FIGURES = "0123456789abcdef"
BLANK_PAGE = "."
NO_PAGE = "-"


def check_text(text):
    """Raise NotText for a value that is no string."""
    if not isinstance(text, str):
        raise NotText("no string")


def number_in(text):
    """The integer that is written in a text without a needless 0, None if none is."""
    if not 1 <= len(text) <= MOST_FIGURES or not has_only(text, FIGURES):
        return None
    return int(text) if str(int(text)) == text else None


def written_line(line):
    """The text of a line of a tree."""
    if line[1] == "folder":
        return line[0] + "/"
    return line[0] + (FILE_SIGN if line[1] == "file" else SAME_SIGN) + line[2]


def line_in(text):
    """The only line of a tree that a text may be of, whether it is one or not."""
    # No way has a space: only contents can have any more signs.
    way, sign, contents = text.partition(FILE_SIGN)
    if sign:
        return (way, "file", contents)
    way, sign, other = text.partition(SAME_SIGN)
    if sign:
        return (way, "same", other)
    return (text[:-1], "folder") if text.endswith("/") else None


def write_tree(tree):
    """The text of a tree."""
    check_tree(tree)
    return "\n".join([written_line(line) for line in tree])


def read_tree(text):
    """The tree of a text."""
    check_text(text)
    if text == "":
        return ()
    lines = tuple([line_in(part) for part in text.split("\n")])
    index = first_wrong(lines)
    if index is not None:
        raise InvalidText(index + 1)
    return lines


def written_simple(deed):
    """The text of a simple deed."""
    words = [str(item) for item in deed]
    if FORMS[deed[0]][-1] == "contents":
        return " ".join(words[:-1]) + FILE_SIGN + words[-1]
    return " ".join(words)


def written_deed(deed):
    """The text of a deed, whether it is read as just this deed or not."""
    if deed[0] != "bundle":
        return written_simple(deed)
    parts = [written_simple(simple) for simple in deed[1]]
    return DEED_SIGN.join([LONE] + parts if len(parts) == 1 else parts)


def simple_in(text):
    """The only simple deed that a text may be of, whether it is one or not; None if there is none."""
    head, sign, contents = text.partition(FILE_SIGN)
    words = head.split(" ")
    if words[0] not in FORMS:
        return None
    forms = FORMS[words[0]]
    found = [words[0]]
    for word, form in zip(words[1:], forms):
        found.append(number_in(word) if form == "place" else word)
    if sign:
        found.append(contents)
    # What does not stand behind the sign of contents are no contents, and what does is nothing else.
    if (sign != "") != (forms[-1] == "contents") or len(words) + (1 if sign else 0) != len(forms) + 1:
        return None
    return tuple(found)


def deed_in(text):
    """The deed of a text, None if there is none."""
    parts = text.split(DEED_SIGN)
    if len(parts) == 1:
        deed = simple_in(text)
    elif parts[0] == LONE and len(parts) == 2:
        deed = ("bundle", (simple_in(parts[1]),))
    else:
        deed = ("bundle", tuple([simple_in(part) for part in parts]))
    return deed if is_deed(deed) else None


def write_deed(deed):
    """The text of a deed."""
    check_deed(deed)
    text = written_deed(deed)
    if deed_in(text) != deed:
        raise NotMade("the text would be read as something else")
    return text


def read_deed(text):
    """The deed of a text."""
    check_text(text)
    deed = deed_in(text)
    if deed is None:
        raise InvalidText(1)
    return deed


def written_page_line(page):
    """The text of a page."""
    if page is None:
        return NO_PAGE
    if page == BLANK:
        return BLANK_PAGE
    return "".join([HEX_FIGURES[octet // 16] + HEX_FIGURES[octet % 16] for octet in page])


def is_page_line(text):
    """Whether a string is the text of a page."""
    if text in (NO_PAGE, BLANK_PAGE):
        return True
    return len(text) == 2 * PAGE_BYTES and has_only(text, HEX_FIGURES) and not has_only(text, "0")


def page_in(text):
    """The page of a string that is known to be the text of one."""
    if text == NO_PAGE:
        return None
    if text == BLANK_PAGE:
        return BLANK
    figures = [HEX_FIGURES.index(figure) for figure in text]
    return tuple([figures[at] * 16 + figures[at + 1] for at in range(0, len(figures), 2)])


def write_image(image):
    """The text of an image."""
    check_image(image)
    return "\n".join([written_page_line(page) for page in image])


def read_image(text):
    """The image of a text."""
    check_text(text)
    lines = text.split("\n")
    for index, line in enumerate(lines):
        if index >= MOST_IMAGE or not is_page_line(line):
            raise InvalidText(index + 1)
    if len(lines) < FEWEST_PAGES:
        raise InvalidText(len(lines) + 1)
    return tuple([page_in(line) for line in lines])
