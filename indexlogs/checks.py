"""Checks of values that several files of the package need."""

from indexlogs.errors import NoList

MOST_LETTERS = 8
MOST_ITEMS = 60


def is_integer(thing):
    """Tell whether any object is an integer; a boolean is none."""
    return isinstance(thing, int) and not isinstance(thing, bool)


def first_of(rows):
    """Give the first entry of a list, or None if it has none."""
    return rows[0] if len(rows) > 0 else None


def is_item(thing):
    """Tell whether any object is an item."""
    if not isinstance(thing, str) or len(thing) > MOST_LETTERS:
        return False
    return thing.isascii() and thing.isalpha() and thing.islower()


def is_items(thing):
    """Tell whether any object is a list of different items that is not too long."""
    if not isinstance(thing, list) or len(thing) > MOST_ITEMS:
        return False
    return all([is_item(entry) for entry in thing]) and len(set(thing)) == len(thing)


def check_items(items):
    """Raise NoList for any object that is no list of items."""
    if not is_items(items):
        raise NoList("not a list of at most 60 different items")
