"""Logs, and lists of records that are applied one after another."""

from indexlogs.checks import check_items
from indexlogs.errors import Impossible, NoLog
from indexlogs.records import Fronted, Record, is_sign

MOST_IN_LOG = 40
MOST_REPLAYED = 80


def has_kind(thing):
    """Tell whether any object is a record of one of the three kinds."""
    return isinstance(thing, Record) and thing.SIGN != Record.SIGN


def are_records(thing, most):
    """Tell whether any object is a list of at most so many records of any kinds."""
    if not isinstance(thing, list) or len(thing) > most:
        return False
    return all([has_kind(entry) for entry in thing])


def is_log(thing):
    """Tell whether any object is a log."""
    if not are_records(thing, MOST_IN_LOG):
        return False
    if len({record.SIGN for record in thing}) > 1:
        return False
    return len({record.item for record in thing}) == len(thing)


def check_log(log):
    """Raise NoLog for any object that is no log."""
    if not is_log(log):
        raise NoLog("not a list of at most 40 records of one kind with different items")


def check_sign(sign):
    """Raise NoLog for any object that is not the sign of one of the three kinds."""
    if not is_sign(sign):
        raise NoLog("not the sign of a kind")


def sign_of(log):
    """Give the sign of the log's kind; the empty log, which is of every kind, has that of no kind."""
    return log[0].SIGN if len(log) > 0 else Record.SIGN


def is_fronted(log):
    """Tell whether the records of the log are moves to the front."""
    return sign_of(log) == Fronted.SIGN


def check_records(records):
    """Raise NoLog for any object that cannot be replayed."""
    if not are_records(records, MOST_REPLAYED):
        raise NoLog("not a list of at most 80 records of the three kinds")


def list_after(items, record, number):
    """Give the list after the record, which has this number among the records."""
    if not record.applies(items):
        raise Impossible(number)
    return record.applied(items)


def replay(items, records):
    """Give the list after the records, applied one after another."""
    check_items(items)
    check_records(records)
    now = list(items)
    for number, record in enumerate(records):
        now = list_after(now, record, number)
    return now


def states(items, records):
    """Yield the lists before, between and after the records."""
    check_items(items)
    check_records(records)
    now = list(items)
    # What is yielded is a copy: the caller may change it before the next step.
    yield list(now)
    for number, record in enumerate(records):
        now = list_after(now, record, number)
        yield list(now)
