"""Records: one insertion, removal or move to the front, with its index."""

from indexlogs.checks import MOST_ITEMS, check_items, is_integer, is_item
from indexlogs.errors import Impossible, NoIndex, NoItem, NoText


def check_index(slot):
    """Raise NoIndex for any object that is no index."""
    if not is_integer(slot) or not 0 <= slot <= Record.MOST:
        raise NoIndex("not an integer from 0 to 60")


def parts_of(text, sign):
    """Give the item and the index of a record's text that begins with the sign."""
    item, _, number = text[len(sign):].partition("@")
    # The texts of all indices are listed, so that no other way to write one (03, +3) passes.
    numbers = [str(slot) for slot in range(Record.MOST + 1)]
    if not text.startswith(sign) or not is_item(item) or number not in numbers:
        raise NoText(0)
    return item, int(number)


def stands_at(items, item, slot):
    """Tell whether the item stands at the index."""
    return slot < len(items) and items[slot] == item


def has_place(items, item, slot):
    """Tell whether the item can be put in at the index."""
    return item not in items and slot <= len(items) < MOST_ITEMS


def put_in(items, item, slot):
    """Give a new list with the item put in at the index."""
    return items[:slot] + [item] + items[slot:]


def taken_out(items, slot):
    """Give a new list without the item at the index."""
    return items[:slot] + items[slot + 1:]


class Record:
    """A record of no kind, and the base class of the three kinds."""

    MOST = 60
    SIGN = ""

    def __init__(self, item, slot):
        if not is_item(item):
            raise NoItem("not 1 to 8 lowercase letters")
        check_index(slot)
        self._item = item
        self._slot = slot

    def __eq__(self, other):
        # Each class has a sign of its own, so equal signs mean the same class.
        if not isinstance(other, Record) or self.SIGN != other.SIGN:
            return False
        return self._item == other._item and self._slot == other._slot

    @property
    def item(self):
        """The item of the record."""
        return self._item

    @property
    def slot(self):
        """The index of the record."""
        return self._slot

    @property
    def text(self):
        """The text of the record, which read reads."""
        return f"{self.SIGN}{self._item}@{self._slot}"

    def move_to(self, slot):
        """Change the index."""
        check_index(slot)
        self._slot = slot

    @classmethod
    def read(cls, text):
        """Give the record of a text of any of the four forms."""
        if text.startswith(Inserted.SIGN):
            return Inserted.read(text)
        if text.startswith(Removed.SIGN):
            return Removed.read(text)
        if text.startswith(Fronted.SIGN):
            return Fronted.read(text)
        item, slot = parts_of(text, cls.SIGN)
        return cls(item, slot)

    def allows(self, position):
        """Tell whether the item may stand at the position of a closed list."""
        return position >= 0

    def applies(self, items):
        """Tell whether the record can be applied to the items."""
        check_items(items)
        return False

    def applied(self, items):
        """Give the list after the record."""
        check_items(items)
        raise Impossible(self._item)

    def taken_back(self, items):
        """Give the list before the record, of the list after it."""
        check_items(items)
        raise Impossible(self._item)


class Inserted(Record):
    """The item, which is not in the list, is put in at the index."""

    SIGN = "+"

    @classmethod
    def read(cls, text):
        """Give the insertion of a text."""
        item, slot = parts_of(text, cls.SIGN)
        return cls(item, slot)

    def allows(self, position):
        """Tell whether the item may stand at the position of a closed list."""
        return position >= self._slot

    def applies(self, items):
        """Tell whether the item can be put in."""
        check_items(items)
        return has_place(items, self._item, self._slot)

    def applied(self, items):
        """Give the list with the item."""
        if not self.applies(items):
            raise Impossible(self._item)
        return put_in(items, self._item, self._slot)

    def taken_back(self, items):
        """Give the list before the item was put in."""
        check_items(items)
        if not stands_at(items, self._item, self._slot):
            raise Impossible(self._item)
        return taken_out(items, self._slot)


class Removed(Record):
    """The item stands at the index and is taken out."""

    SIGN = "-"

    @classmethod
    def read(cls, text):
        """Give the removal of a text."""
        item, slot = parts_of(text, cls.SIGN)
        return cls(item, slot)

    def allows(self, position):
        """Tell whether the item may stand at the position of a closed list."""
        return position >= self._slot

    def applies(self, items):
        """Tell whether the item stands at the index."""
        check_items(items)
        return stands_at(items, self._item, self._slot)

    def applied(self, items):
        """Give the list without the item."""
        if not self.applies(items):
            raise Impossible(self._item)
        return taken_out(items, self._slot)

    def taken_back(self, items):
        """Give the list before the item was taken out."""
        check_items(items)
        if not has_place(items, self._item, self._slot):
            raise Impossible(self._item)
        return put_in(items, self._item, self._slot)


class Fronted(Record):
    """The item stands at the index and is moved to index 0."""

    SIGN = "^"

    @classmethod
    def read(cls, text):
        """Give the move to the front of a text."""
        item, slot = parts_of(text, cls.SIGN)
        return cls(item, slot)

    def allows(self, position):
        """Tell whether the item may stand at the position of a closed list."""
        return 0 <= position <= self._slot

    def applies(self, items):
        """Tell whether the item stands at the index."""
        check_items(items)
        return stands_at(items, self._item, self._slot)

    def applied(self, items):
        """Give the list with the item at the front."""
        if not self.applies(items):
            raise Impossible(self._item)
        return put_in(taken_out(items, self._slot), self._item, 0)

    def taken_back(self, items):
        """Give the list before the item was moved to the front."""
        check_items(items)
        if not stands_at(items, self._item, 0) or self._slot >= len(items):
            raise Impossible(self._item)
        return put_in(taken_out(items, 0), self._item, self._slot)


def is_sign(thing):
    """Tell whether any object is the sign of one of the three kinds."""
    return thing in (Inserted.SIGN, Removed.SIGN, Fronted.SIGN)


def record_of(sign, item, slot):
    """Give a new record of the kind with this sign."""
    if sign == Inserted.SIGN:
        return Inserted(item, slot)
    if sign == Removed.SIGN:
        return Removed(item, slot)
    return Fronted(item, slot)
