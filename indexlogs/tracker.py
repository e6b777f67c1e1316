"""Trackers: a log of one kind that grows, with sightings of positions, marks and undo."""

from indexlogs.checks import is_integer, is_item
from indexlogs.errors import NoItem, NoLog, NoNumber, NoPosition, Nothing
from indexlogs.lists import count
from indexlogs.records import record_of
from indexlogs.replay import check_log, check_sign, has_kind, sign_of

ADD = "add"
SEE = "see"


def clashes(sightings, item, position):
    """Tell whether the item or the position was seen with another partner."""
    return any([(item == seen) != (position == place) for seen, place in sightings])


class Tracker:
    """A log of one kind that grows, and sightings of positions of its closed list."""

    MOST = 40

    def __init__(self, sign):
        check_sign(sign)
        self._sign = sign
        # The calls that hold: (ADD, item, index) and (SEE, item, position). No record is kept, so none can change.
        self._calls = []
        # For each mark the number of calls that held when it was made.
        self._marks = []

    @classmethod
    def of(cls, log):
        """Give a tracker with the records of a log that is not empty."""
        check_log(log)
        if len(log) == 0:
            raise NoLog("the empty log is of no single kind")
        made = cls(sign_of(log))
        for record in log:
            made.add(record)
        return made

    def __len__(self):
        return len(self._calls)

    @property
    def sign(self):
        """The sign of the kind of the records."""
        return self._sign

    @property
    def log(self):
        """The records in the order of the calls."""
        return [record_of(self._sign, item, slot) for word, item, slot in self._calls if word == ADD]

    @property
    def sightings(self):
        """The tuples (item, position), ascending by position."""
        partners = {place: item for word, item, place in self._calls if word == SEE}
        return [(partners[place], place) for place in sorted(partners)]

    @property
    def ways(self):
        """How many closed lists of the log agree with the sightings."""
        log = self.log
        names = [record.item for record in log]
        partners = {place: item for item, place in self.sightings}
        if not all([partners[place] in names and place < len(log) for place in partners]):
            return 0
        return count(log, seen=[partners.get(place) for place in range(len(log))])

    def turn(self, sign):
        """Change the sign of a tracker without records."""
        check_sign(sign)
        if len(self.log) > 0:
            raise Nothing("there is a record")
        self._sign = sign

    def add(self, record):
        """Add a record."""
        if not has_kind(record) or record.SIGN != self._sign:
            raise NoLog("not a record of this kind")
        names = [other.item for other in self.log]
        if record.item in names or len(names) >= Tracker.MOST:
            raise NoLog("the item has a record, or there are 40")
        self._calls.append((ADD, record.item, record.slot))

    def see(self, item, position):
        """Note that the item stands at the position of the closed list."""
        if not is_item(item):
            raise NoItem("not 1 to 8 lowercase letters")
        if not is_integer(position) or not 0 <= position < Tracker.MOST:
            raise NoPosition("not a position from 0 to 39")
        if clashes(self.sightings, item, position):
            raise NoPosition("the item or the position was seen with another partner")
        self._calls.append((SEE, item, position))

    def undo(self):
        """Undo the last call of add or see, and remove the marks that were made after it."""
        if len(self._calls) == 0:
            raise Nothing("no call to undo")
        self._calls.pop()
        self._marks = [held for held in self._marks if held <= len(self._calls)]

    def mark(self):
        """Make a mark, and give its number."""
        self._marks.append(len(self._calls))
        return len(self._marks) - 1

    def undo_to(self, mark):
        """Restore the state at the mark, and remove later marks."""
        if not is_integer(mark) or not 0 <= mark < len(self._marks):
            raise NoNumber("not the number of a mark")
        del self._calls[self._marks[mark]:]
        del self._marks[mark + 1:]

    def twin(self):
        """Give an independent copy, marks included."""
        made = Tracker(self._sign)
        made._calls = list(self._calls)
        made._marks = list(self._marks)
        return made
