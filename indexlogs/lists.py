"""Closed lists of a log: how many agree with a seen list, which they are, and why there is none."""

from math import gcd

from indexlogs.checks import first_of, is_integer, is_items
from indexlogs.errors import Impossible, NoItem, NoList, NoNumber, NoPosition, NoSeen
from indexlogs.replay import check_log, is_fronted


def is_seen(log, thing):
    """Tell whether any object is a seen list of the log."""
    if not isinstance(thing, list) or len(thing) != len(log):
        return False
    names = [record.item for record in log]
    seen = [entry for entry in thing if entry is not None]
    return all([entry in names for entry in seen]) and len(set(seen)) == len(seen)


def checked_row(log, seen):
    """Give the seen list as a new list, or raise NoLog or NoSeen."""
    check_log(log)
    if seen is None:
        return [None for _ in log]
    if not is_seen(log, seen):
        raise NoSeen("not a seen list of the log")
    return list(seen)


def placed(row, item, place):
    """Give a new seen list that has the item at the place as well."""
    return row[:place] + [item] + row[place + 1:]


def free_places(row):
    """Give the positions without a seen item, ascending."""
    return [place for place, entry in enumerate(row) if entry is None]


def unseen(log, row):
    """Give the records whose items are not seen."""
    seen = set(row)
    return [record for record in log if record.item not in seen]


def choices(log, row, places):
    """Give each of these free places, narrowest first, and how many unseen items are left to choose for it."""
    # With places and indices turned for Fronted, every record allows the places from its index on.
    turn = -1 if is_fronted(log) else 1
    slots = sorted([turn * record.slot for record in unseen(log, row)])
    found = []
    fitting = 0
    for filled, place in enumerate(sorted([turn * place for place in places])):
        while fitting < len(slots) and slots[fitting] <= place:
            fitting += 1
        found.append((turn * place, fitting - filled))
    return found


def far_items(log):
    """Give the items whose records no closed list can have, because it is too short."""
    return [record.item for record in log if is_fronted(log) and record.slot >= len(log)]


def misplaced(log, row):
    """Give the seen items, by position, whose records do not allow their positions."""
    records = {record.item: record for record in log}
    seen = [(place, item) for place, item in enumerate(row) if item is not None]
    return [item for place, item in seen if not records[item].allows(place)]


def certificates(log, row):
    """Give all reasons why no closed list agrees, the first one first."""
    far = [("far", item) for item in far_items(log)]
    wrong = [("wrong", item) for item in misplaced(log, row)]
    few = [("few", place) for place, many in choices(log, row, free_places(row)) if many <= 0]
    return far + wrong + few


def ways(log, row):
    """Give how many closed lists agree."""
    if len(far_items(log)) > 0 or len(misplaced(log, row)) > 0:
        return 0
    many = 1
    for _, chosen in choices(log, row, free_places(row)):
        many *= chosen
    return many


def ways_besides(record, rest):
    """Give the product of the choices that are left when the item of the record is no longer among them."""
    many = 1
    for place, chosen in rest:
        many *= chosen - 1 if record.allows(place) else chosen
    return many


def branches(log, row):
    """Give the rows with one more item at the first free place, in ascending order, each with its ways."""
    places = free_places(row)
    rest = choices(log, row, places[1:])
    records = {record.item: record for record in unseen(log, row)}
    found = []
    for item in sorted(records):
        fits = records[item].allows(places[0])
        many = ways_besides(records[item], rest) if fits else 0
        found.append((placed(row, item, places[0]), many))
    return found


def count(log, *, seen=None):
    """Give how many closed lists agree."""
    return ways(log, checked_row(log, seen))


def conflict(log, *, seen=None):
    """Give None if some closed lists agree, else the first reason why none does."""
    return first_of(certificates(log, checked_row(log, seen)))


def shows_conflict(log, thing, *, seen=None):
    """Tell whether any object is a true reason why no closed list agrees."""
    found = certificates(log, checked_row(log, seen))
    # Python takes True for 1 here, but a boolean is no position.
    return thing in found and not isinstance(thing[1], bool)


def list_at(log, row, number):
    """Give the list with the number, of which there is one, among those that agree with the row."""
    while None in row:
        rows = branches(log, row)
        at = 0
        while number >= rows[at][1]:
            number -= rows[at][1]
            at += 1
        row = rows[at][0]
    return row


def nth_list(log, number, *, seen=None):
    """Give the closed list with the number, in ascending order."""
    row = checked_row(log, seen)
    if not is_integer(number) or not 0 <= number < ways(log, row):
        raise NoNumber("not from 0 to the number of lists less 1")
    return list_at(log, row, number)


def is_filling(log, row, items):
    """Tell whether any object is a closed list that agrees with the row."""
    if not is_items(items) or not is_seen(log, items):
        return False
    agrees = all([entry is None or entry == items[place] for place, entry in enumerate(row)])
    return agrees and ways(log, items) == 1


def list_number(log, items, *, seen=None):
    """Give the number of a closed list."""
    row = checked_row(log, seen)
    if not is_filling(log, row, items):
        raise NoList("not one of the lists")
    number = 0
    while None in row:
        place = row.index(None)
        number += sum([many for longer, many in branches(log, row) if longer[place] < items[place]])
        row = placed(row, items[place], place)
    return number


def fillings(log, row):
    """Yield the lists that agree with the row, of which there is one at least."""
    if None not in row:
        yield row
        return
    for longer, many in branches(log, row):
        if many > 0:
            yield from fillings(log, longer)


def possible_lists(log, *, seen=None):
    """Yield the closed lists that agree, in ascending order."""
    row = checked_row(log, seen)
    if ways(log, row) > 0:
        yield from fillings(log, row)


def ways_with(log, row, item, place):
    """Give how many of the lists that agree have the item at the place."""
    if row[place] is None and item not in row:
        return ways(log, placed(row, item, place))
    return ways(log, row) if row[place] == item else 0


def check_some(log, row):
    """Raise Impossible if no closed list agrees."""
    found = certificates(log, row)
    if len(found) > 0:
        raise Impossible(found[0])


def check_own(log, item):
    """Raise NoItem for a string that is no item of the log."""
    if item not in [record.item for record in log]:
        raise NoItem("no item of the log")


def certain(log, *, seen=None):
    """Give the seen list of all positions that are the same in all lists."""
    row = checked_row(log, seen)
    check_some(log, row)
    many = ways(log, row)
    first = list_at(log, row, 0)
    return [item if ways_with(log, row, item, place) == many else None for place, item in enumerate(first)]


def positions(log, item, *, seen=None):
    """Give the ascending list of the positions that an item has in the lists."""
    row = checked_row(log, seen)
    check_own(log, item)
    check_some(log, row)
    return [place for place in range(len(row)) if ways_with(log, row, item, place) > 0]


def share(log, item, position, *, seen=None):
    """Give the fraction of the lists in which an item stands at a position."""
    row = checked_row(log, seen)
    check_own(log, item)
    if not is_integer(position) or not 0 <= position < len(row):
        raise NoPosition("not a position of the lists")
    check_some(log, row)
    top = ways_with(log, row, item, position)
    bottom = ways(log, row)
    shared = gcd(top, bottom)
    return top // shared, bottom // shared
