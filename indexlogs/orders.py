"""The order of a log's records, found from their indices and the known list."""

from indexlogs.checks import check_items, first_of, is_items
from indexlogs.errors import Impossible, NoItem, NoList
from indexlogs.records import Fronted, Inserted, record_of
from indexlogs.replay import MOST_IN_LOG, check_log, check_sign, is_fronted, sign_of


def check_known(log, items):
    """Raise NoList for any object that is no known list of the log."""
    check_items(items)
    if not all([record.item in items for record in log]):
        raise NoList("an item of the log is missing")


def check_names(items, names):
    """Raise NoList for any object that does not name the items of a log, out of the known list."""
    if not is_items(names) or len(names) > MOST_IN_LOG:
        raise NoList("not a list of at most 40 different items")
    if not all([name in items for name in names]):
        raise NoList("an item is not in the known list")


def rooms_of(log, items):
    """Give the room of each item with a record, in the order of items."""
    names = [record.item for record in log]
    known = [item for item in items if item in names]
    if is_fronted(log):
        return {item: len(known) - 1 - before for before, item in enumerate(known)}
    return {item: before for before, item in enumerate(known)}


def shifts_of(log, items):
    """Give the shift of each item with a record."""
    if is_fronted(log):
        return {record.item: record.slot - items.index(record.item) for record in log}
    return {record.item: items.index(record.item) - record.slot for record in log}


def certificates(log, items):
    """Give all reasons why the log cannot have happened, in the order of items."""
    shifts = shifts_of(log, items)
    found = []
    for item, room in rooms_of(log, items).items():
        if shifts[item] < 0:
            found.append(("low", item))
        elif shifts[item] > room:
            found.append(("high", item))
    return found


def order_of_names(log, items):
    """Give the items in the order of their records, if the log can have happened."""
    shifts = shifts_of(log, items)
    rooms = rooms_of(log, items)
    inserted = sign_of(log) == Inserted.SIGN
    names = []
    # By rising room, the items that the room of the next one counts are those already in names.
    for item in sorted(rooms, key=lambda name: rooms[name]):
        names.insert(rooms[item] - shifts[item] if inserted else shifts[item], item)
    return names


def reason(log, items):
    """Give None if the log can have happened with the known list, else the first reason why not."""
    check_log(log)
    check_known(log, items)
    return first_of(certificates(log, items))


def shows(log, items, thing):
    """Tell whether any object is a true reason why the log cannot have happened."""
    check_log(log)
    check_known(log, items)
    return thing in certificates(log, items)


def order_of(log, items):
    """Give the records in their only order."""
    why = reason(log, items)
    if why is not None:
        raise Impossible(why)
    records = {record.item: record for record in log}
    names = order_of_names(log, items)
    return [record_of(records[name].SIGN, name, records[name].slot) for name in names]


def index_range(log, items, item):
    """Give the least and the greatest index that the record of the item can have."""
    check_log(log)
    check_known(log, items)
    rooms = rooms_of(log, items)
    if item not in rooms:
        raise NoItem("no item of the log")
    place = items.index(item)
    if is_fronted(log):
        return place, place + rooms[item]
    return place - rooms[item], place


def slot_of(kind, items, names, name):
    """Give the index of an item's record, if the records have happened in the order of names."""
    place = items.index(name)
    when = names.index(name)
    if kind == Inserted.SIGN:
        return place - len([other for other in names[when:] if items.index(other) < place])
    if kind == Fronted.SIGN:
        return place + len([other for other in names[:when] if items.index(other) > place])
    return place - len([other for other in names[:when] if items.index(other) < place])


def log_of(kind, items, names):
    """Give the log of a kind whose records have happened in the order of names."""
    check_sign(kind)
    check_items(items)
    check_names(items, names)
    return [record_of(kind, name, slot_of(kind, items, names, name)) for name in names]
