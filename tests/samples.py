"""Values that several tests use: names of items, and objects of every kind."""

from indexlogs.records import Fronted, Inserted, Record, Removed

KINDS = [Inserted, Removed, Fronted]
CLASSES = [Record, Inserted, Removed, Fronted]


def names(many):
    """Give so many different items, as 'aa', 'ab', ..."""
    letters = "abcdefghijklmnopqrstuvwxyz"
    return [letters[k // 26] + letters[k % 26] for k in range(many)]


class Draw:
    """Draws that depend on the seed alone."""

    def __init__(self, seed):
        self.state = seed * 7919 + 12345

    def below(self, many):
        """Draw a number from 0 to many - 1."""
        self.state = (self.state * 1103515245 + 12345) % 2 ** 31
        return self.state // 65536 % many

    def pick(self, rows):
        """Draw an entry."""
        return rows[self.below(len(rows))]


def shuffled(rows, seed):
    """Give the rows in another order, which depends on the seed alone."""
    left, found, draw = list(rows), [], Draw(seed)
    while left:
        found.append(left.pop(draw.below(len(left))))
    return found


def partial(rows, many):
    """Give each tuple of entries of the rows or None, each entry at most once, of a length."""
    if many == 0:
        yield ()
        return
    for first in [None] + list(rows):
        rest = [row for row in rows if row != first]
        for behind in partial(rest, many - 1):
            yield (first,) + behind


def nested(thing, depth):
    """Give a list that contains the thing so many lists deep."""
    for _ in range(depth):
        thing = [thing]
    return thing


NO_ITEM_STRINGS = [
    "", "abcdefghi", "a" * 4000, "A", "aB", "Ab", "a1", "1", "a b", " a", "a ", " ", "a\n", "\na", "\n",
    "a-b", "a_b", "_", "a@1", "?", "-", "+a", "a,b", "{", "`", "\u00e9", "a\u00df",
]

# Objects that are no item, no index and no list in any place.
OTHERS = [
    None, True, False, -1, -60, 61, 100, 10 ** 59, -(10 ** 60 - 1), "0", "3", "A", "", "+x@3",
    (), (0,), ("a",), {}, {"a": 0}, {"a": "b"}, {"item": "a", "slot": 0},
    Record("a", 0), Inserted("a", 0), Removed("b", 60), Fronted("c", 1),
]

NO_ITEMS = OTHERS + NO_ITEM_STRINGS + [0, 3, [], ["a"], ["a", "b"], nested("a", 6)]

NO_INDICES = OTHERS + ["a", [], [0], [3], nested(0, 6), "x" * 4000]

# Lists and other objects that are no list of items.
NO_LISTS = OTHERS + [[thing] for thing in OTHERS] + [[thing] for thing in NO_ITEM_STRINGS] + [
    0, 3, "abc", "a", [0], [[]], [["a"]], nested("a", 6), ["a", "a"], ["b", "a", "b"], ["a", 0], ["a", True],
    ["a", "b", None], ["a", ["b"]], ("a", "b"), {"a": 0, "b": 1}, names(61), names(400), names(30) + names(30),
    [0] * 2000, ["a"] * 2000, [Inserted("a", 0), Inserted("b", 0)],
]

# Objects that are neither a log nor a list of records.
NO_RECORD_LISTS = OTHERS + [[thing] for thing in OTHERS if not isinstance(thing, tuple(KINDS))] + [
    0, "a", "abc", ["a"], [0], [[]], [[Inserted("a", 0)]], (Inserted("a", 0),), {"a": Inserted("a", 0)},
    [Record("a", 0)], [Inserted("a", 0), Record("b", 0)], [Inserted("a", 0), None], ["+a@0"],
    [Inserted("a", 0), "+b@0"], [Removed("a", 0), ("b", 0)], nested(Fronted("a", 0), 6), [None] * 2000,
    names(60), [True],
]

# Objects that are no log.
NO_LOGS = NO_RECORD_LISTS + [
    [Inserted("a", 0), Removed("b", 0)], [Removed("a", 0), Fronted("b", 0)], [Fronted("a", 0), Inserted("b", 0)],
    [Inserted("a", 0), Inserted("a", 0)], [Removed("a", 0), Removed("b", 0), Removed("a", 1)],
    [Inserted(item, 0) for item in names(41)], [Fronted(item, 60) for item in names(41)],
    [Inserted(item, 0) for item in names(39)] + [Removed("x", 0)],
]
