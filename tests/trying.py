"""Results that several tests find by trying, without the functions that they test."""

import itertools

from indexlogs.errors import Impossible
from indexlogs.records import Fronted, Inserted
from indexlogs.replay import replay


def first_list(log, items):
    """Give the list before all records, if items is the known list."""
    if log and isinstance(log[0], Inserted):
        own = [record.item for record in log]
        return [item for item in items if item not in own]
    return items


def leads(order, items):
    """Tell whether the records, one after another, fit the known list."""
    try:
        last = replay(first_list(order, items), order)
    except Impossible:
        return False
    return not order or not isinstance(order[0], Inserted) or last == items


def orders_by_trying(log, items):
    """Give all orders in which the log can have happened."""
    return [list(order) for order in itertools.permutations(log) if leads(list(order), items)]


def may_stand(record, place, many):
    """Tell whether the item may stand at the place of a closed list of so many items, as R3 says."""
    if isinstance(record, Fronted):
        return place <= record.slot < many
    return place >= record.slot


def closed_by_trying(log):
    """Give all closed lists of the log in ascending order, as R3 says."""
    many = len(log)
    found = [[record.item for record in row] for row in itertools.permutations(log)
             if all(may_stand(record, place, many) for place, record in enumerate(row))]
    return sorted(found)


def is_closed(slots):
    """Tell whether insertions or removals with these indices have a closed list, as R3 says of any number of them."""
    return all(len([slot for slot in slots if slot <= k]) > k for k in range(len(slots)))
