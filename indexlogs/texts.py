"""Texts of logs, of lists of items and of seen lists: words between single blanks."""

from indexlogs.checks import is_item, is_items
from indexlogs.errors import NoText
from indexlogs.records import Record
from indexlogs.replay import MOST_IN_LOG, is_log

EMPTY = "-"
UNSEEN = "?"


def joined(words):
    """Give the text of the words, of which there may be none."""
    return " ".join(words) if len(words) > 0 else EMPTY


def words_of(text):
    """Give the words of a text, which are none if the empty value has this text."""
    words = text.split(" ")
    if words[0] != EMPTY:
        return words
    if len(words) > 1:
        raise NoText(1)
    return []


def record_in(word):
    """Give the record of a word, or None if the word is no text of a record."""
    try:
        record = Record.read(word)
    except NoText:
        return None
    return record


def write_log(log):
    """Give the text of a log."""
    return joined([record.text for record in log])


def read_log(text):
    """Give the log of a text."""
    log = []
    for at, word in enumerate(words_of(text)):
        record = record_in(word)
        if not is_log(log + [record]):
            raise NoText(at)
        log.append(record)
    return log


def write_items(items):
    """Give the text of a list of items."""
    return joined(items)


def read_items(text):
    """Give the list of items of a text."""
    items = []
    for at, word in enumerate(words_of(text)):
        if not is_items(items + [word]):
            raise NoText(at)
        items.append(word)
    return items


def write_seen(seen):
    """Give the text of a seen list."""
    return joined([UNSEEN if entry is None else entry for entry in seen])


def can_follow(seen, word):
    """Tell whether the word can stand behind the entries of a seen list."""
    if len(seen) >= MOST_IN_LOG:
        return False
    return word == UNSEEN or is_item(word) and word not in seen


def read_seen(text):
    """Give the seen list of a text."""
    seen = []
    for at, word in enumerate(words_of(text)):
        if not can_follow(seen, word):
            raise NoText(at)
        seen.append(None if word == UNSEEN else word)
    return seen
