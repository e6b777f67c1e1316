"""Sessions: lines of words that make and use trackers, and the answers to them."""

from indexlogs.errors import Impossible, NoItem, NoList, NoLog, NoNumber, NoPosition, NoText, Nothing
from indexlogs.lists import positions
from indexlogs.orders import order_of
from indexlogs.records import Record
from indexlogs.texts import write_log
from indexlogs.tracker import Tracker

OK = "ok"
NO_LINE = "?"
MOST_DIGITS = 9


class Desk:
    """The place of the tracker that the lines use; None before the first one."""

    def __init__(self):
        self.tracker = None


def answer_new(desk, words):
    """Put a new tracker in place."""
    desk.tracker = Tracker(words[0])
    return OK


def answer_add(desk, words):
    """Add the record of a text."""
    desk.tracker.add(Record.read(words[0]))
    return OK


def answer_see(desk, words):
    """Note a sighting."""
    desk.tracker.see(words[0], int(words[1]))
    return OK


def answer_ways(desk, words):
    """Tell how many closed lists agree."""
    return str(desk.tracker.ways)


def answer_log(desk, words):
    """Tell the log."""
    return write_log(desk.tracker.log)


def answer_undo(desk, words):
    """Undo the last call."""
    desk.tracker.undo()
    return OK


def answer_mark(desk, words):
    """Make a mark."""
    return str(desk.tracker.mark())


def answer_back(desk, words):
    """Go back to a mark."""
    desk.tracker.undo_to(int(words[0]))
    return OK


def answer_order(desk, words):
    """Tell the order of the log for a known list."""
    return write_log(order_of(desk.tracker.log, words))


def answer_where(desk, words):
    """Tell the positions of an item."""
    return " ".join([str(place) for place in positions(desk.tracker.log, words[0])])


ANSWERS = {
    "new": answer_new, "add": answer_add, "see": answer_see, "ways": answer_ways, "log": answer_log,
    "undo": answer_undo, "mark": answer_mark, "back": answer_back, "order": answer_order, "where": answer_where,
}

# What stands behind the first word of each line but order, which takes any number of words from one on.
FORMS = {
    "new": ("word",), "add": ("word",), "see": ("word", "number"), "ways": (), "log": (), "undo": (), "mark": (),
    "back": ("number",), "where": ("word",),
}


def is_number(word):
    """Tell whether the word is a number of one to nine digits without leading zeros."""
    if not word.isascii() or not word.isdigit() or len(word) > MOST_DIGITS:
        return False
    return word == "0" or not word.startswith("0")


def is_line(words):
    """Tell whether the words are a line of one of the forms."""
    if "" in words or words[0] not in ANSWERS:
        return False
    rest = words[1:]
    if words[0] == "order":
        return len(rest) > 0
    form = FORMS[words[0]]
    return len(rest) == len(form) and all([kind == "word" or is_number(word) for kind, word in zip(form, rest)])


def answer_or_error(desk, words):
    """Give the answer to a line of one of the forms, or the name of the error that it meets."""
    answer = ANSWERS[words[0]]
    try:
        return answer(desk, words[1:])
    except NoItem:
        return "NoItem"
    except NoList:
        return "NoList"
    except NoLog:
        return "NoLog"
    except NoNumber:
        return "NoNumber"
    except NoPosition:
        return "NoPosition"
    except NoText:
        return "NoText"
    except Nothing:
        return "Nothing"
    except Impossible:
        return "Impossible"


def answer_to(desk, line):
    """Give the answer to a line."""
    words = line.split(" ")
    if not is_line(words) or desk.tracker is None and words[0] != "new":
        return NO_LINE
    return answer_or_error(desk, words)


def session(rows):
    """Give the answers to the lines of a string, one line for each."""
    desk = Desk()
    answers = []
    for line in rows.split("\n"):
        answers.append(answer_to(desk, line))
    return "\n".join(answers)
