"""Repair: which indices of a log are wrong, which ones are nearest to them, and what closed lists lack."""

from indexlogs.errors import NoLog
from indexlogs.orders import certificates, check_known, index_range
from indexlogs.records import record_of
from indexlogs.replay import check_log, is_fronted


def check_grown(log):
    """Raise NoLog for any object that is no log, and for moves to the front."""
    check_log(log)
    if is_fronted(log):
        raise NoLog("the records are moves to the front")


def wrong_items(log, items):
    """Give the items, in the order of items, whose shift is negative or greater than their room."""
    check_log(log)
    check_known(log, items)
    return [item for _, item in certificates(log, items)]


def nearest_slot(log, items, record):
    """Give the index that the record can have and that is nearest to its own one."""
    low, high = index_range(log, items, record.item)
    return max(low, min(record.slot, high))


def nearest(log, items):
    """Give the log with the nearest possible index in place of each wrong one."""
    check_log(log)
    check_known(log, items)
    return [record_of(record.SIGN, record.item, nearest_slot(log, items, record)) for record in log]


def least_missing(log):
    """Give the least number of further records with which the log has a closed list."""
    check_grown(log)
    slots = sorted([record.slot for record in log])
    # Index 0 is the best one for a further record, because it then may stand before all others.
    return max([slot - before for before, slot in enumerate(slots)], default=0)


def usable(log):
    """Give the greatest set of records that has a closed list by itself, in the order of log."""
    check_grown(log)
    many = 0
    for slot in sorted([record.slot for record in log]):
        if slot <= many:
            many += 1
    # A record that is not counted has an index above the count, so that the counted ones are those below it.
    return [record_of(record.SIGN, record.item, record.slot) for record in log if record.slot < many]
