"""Checks of calls that raise an error."""

from tests.values import ODD, ODD_TUPLES, deep

# Values that are nothing of what is asked for anywhere; "" and () are something in some places.
NOTHING = ODD + ODD_TUPLES + ["?", b"a", "A", deep(5000), (None,) * 3, ("a", "b"), (("a",),) * 2, ("drop",), [("drop", "/a")]]

# Those that are no tuples of places of a row, either.
NO_PLACES = [value for value in NOTHING if value not in ((0,), (1,))] + [(False,), (True,)]


def check_raises(case, error, ask, *arguments):
    """Whether a call raises just this error, with these fields."""
    with case.assertRaises(error.__class__) as caught:
        ask(*arguments)
    case.assertIs(error.__class__, caught.exception.__class__)
    fields = caught.exception.__dict__
    case.assertEqual(error.__dict__, fields)
    for field, value in fields.items():
        case.assertIs(value.__class__, error.__dict__[field].__class__)
