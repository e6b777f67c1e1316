"""Tests of points 2, 3, 4, 5, 10 and 12: trackers."""

import copy
import itertools
import math
import unittest

from indexlogs.errors import NoItem, NoLog, NoNumber, NoPosition, Nothing
from indexlogs.lists import count
from indexlogs.records import Fronted, Inserted, Record, Removed
from indexlogs.tracker import Tracker
from samples import KINDS, NO_ITEM_STRINGS, NO_LOGS, OTHERS, Draw, names, nested, shuffled
from trying import closed_by_trying

BY_SIGN = {"+": Inserted, "-": Removed, "^": Fronted}

NO_SIGNS = OTHERS + [
    "", "+-", "-^", "+-^", "++", " +", "+ ", "+\n", "\n", "a", "+a@0", "*", "?", "Inserted", ["+"], ("+",), {"+": "-"},
    ["+", "-", "^"], 0, 1, nested("+", 6), "+" * 4000,
]

FAR_NUMBERS = [-1, -2, 10 ** 59, 10 ** 60 - 1, -(10 ** 60 - 1)]


def ways_by_trying(log, sightings):
    """Give how many closed lists agree with the sightings."""
    found = 0
    for row in closed_by_trying(log):
        found += all(place < len(row) and row[place] == item for item, place in sightings)
    return found


def marks_of(tracker):
    """Give the state at each mark, found with twins."""
    return [state_at(tracker.twin(), number) for number in range(tracker.twin().mark())]


def state_at(tracker, number):
    tracker.undo_to(number)
    return tracker.log, tracker.sightings, len(tracker)


def told(tracker):
    """Give all that a tracker tells."""
    return tracker.sign, tracker.log, tracker.sightings, tracker.ways, len(tracker), marks_of(tracker)


class MakingTest(unittest.TestCase):
    def test_the_class_defines_what_the_interface_lists(self):
        self.assertEqual(Tracker.__module__, "indexlogs.tracker")
        for name in ["log", "sightings", "ways", "sign"]:
            self.assertIsInstance(vars(Tracker)[name], property)
        for name in ["turn", "add", "see", "undo", "mark", "undo_to", "twin", "__len__", "__init__"]:
            self.assertIn(name, vars(Tracker))
        self.assertIsInstance(vars(Tracker)["of"], classmethod)

    def test_most(self):
        self.assertEqual(Tracker.MOST, 40)
        self.assertEqual(Tracker("+").MOST, 40)

    def test_empty_trackers(self):
        for sign in BY_SIGN:
            for tracker in [Tracker(sign), Tracker(sign=sign)]:
                self.assertEqual(told(tracker), (sign, [], [], 1, 0, []))

    def test_no_sign(self):
        for thing in NO_SIGNS:
            held = copy.deepcopy(thing)
            with self.subTest(thing=thing):
                with self.assertRaises(NoLog):
                    Tracker(thing)
                with self.assertRaises(NoLog):
                    Tracker(sign=thing)
            self.assertEqual(thing, held)

    def test_identity(self):
        one, other = Tracker("+"), Tracker("+")
        self.assertTrue(one == one)
        self.assertFalse(one == other)
        self.assertTrue(one != other)
        self.assertFalse(one == one.twin())
        self.assertEqual(len({one: 1, other: 2, one.twin(): 3}), 3)
        self.assertNotIn("__eq__", vars(Tracker))

    def test_turn(self):
        for first, second in itertools.product(BY_SIGN, BY_SIGN):
            tracker = Tracker(first)
            self.assertIsNone(tracker.turn(second))
            self.assertEqual(tracker.sign, second)
            tracker.add(BY_SIGN[second]("a", 0))
            self.assertEqual(tracker.log, [BY_SIGN[second]("a", 0)])
            self.assertIsNone(tracker.undo())
            self.assertIsNone(tracker.turn(sign=first))
            self.assertEqual(tracker.sign, first)
            self.assertEqual(tracker.log, [])

    def test_turn_with_sightings_and_marks(self):
        tracker = Tracker("+")
        tracker.see("a", 0)
        self.assertEqual(tracker.mark(), 0)
        tracker.turn("^")
        self.assertEqual(told(tracker), ("^", [], [("a", 0)], 0, 1, [([], [("a", 0)], 1)]))
        tracker.undo_to(0)
        self.assertEqual(tracker.sign, "^")
        tracker.undo()
        self.assertEqual(told(tracker), ("^", [], [], 1, 0, []))

    def test_turn_errors(self):
        for sign in BY_SIGN:
            tracker = Tracker(sign)
            tracker.see("b", 1)
            for thing in NO_SIGNS:
                with self.subTest(thing=thing), self.assertRaises(NoLog):
                    tracker.turn(thing)
            self.assertEqual(tracker.sign, sign)
            tracker.add(BY_SIGN[sign]("a", 0))
            tracker.mark()
            held = told(tracker)
            for other in BY_SIGN:
                with self.assertRaises(Nothing):
                    tracker.turn(other)
            for thing in NO_SIGNS[::4]:
                with self.assertRaises(NoLog):
                    tracker.turn(sign=thing)
            self.assertEqual(told(tracker), held)

    def test_undo_does_not_change_the_sign(self):
        tracker = Tracker("+")
        self.assertEqual(tracker.mark(), 0)
        tracker.add(Inserted("a", 0))
        tracker.undo()
        tracker.turn("-")
        tracker.add(Removed("b", 0))
        tracker.undo_to(0)
        self.assertEqual(told(tracker), ("-", [], [], 1, 0, [([], [], 0)]))
        with self.assertRaises(NoLog):
            tracker.add(Inserted("a", 0))
        tracker.turn("^")
        tracker.add(Fronted("c", 0))
        tracker.undo()
        self.assertEqual(tracker.sign, "^")


class OfTest(unittest.TestCase):
    def test_as_if_added(self):
        for sign, kind in BY_SIGN.items():
            for many in [1, 2, 5, 39, 40]:
                log = [kind(item, k % 41) for k, item in enumerate(shuffled(names(40), many)[:many])]
                added = Tracker(sign)
                for record in log:
                    added.add(record)
                for tracker in [Tracker.of(log), Tracker.of(log=log), Tracker("+").of(log)]:
                    self.assertIsInstance(tracker, Tracker)
                    self.assertEqual(told(tracker), told(added))
                    self.assertEqual(tracker.log, log)
                    self.assertEqual(len(tracker), many)
                    self.assertEqual(tracker.mark(), 0)
                    for left in range(many - 1, -1, -1):
                        tracker.undo()
                        self.assertEqual(tracker.log, log[:left])
                    with self.assertRaises(Nothing):
                        tracker.undo()

    def test_copies(self):
        log = [Inserted("a", 0), Inserted("b", 1)]
        tracker = Tracker.of(log)
        log[0].move_to(9)
        log.pop()
        self.assertEqual(tracker.log, [Inserted("a", 0), Inserted("b", 1)])
        tracker.add(Inserted("c", 2))
        self.assertEqual(log, [Inserted("a", 9)])

    def test_no_log(self):
        for thing in NO_LOGS + [[]]:
            held = copy.deepcopy(thing)
            with self.subTest(thing=thing):
                with self.assertRaises(NoLog):
                    Tracker.of(thing)
                with self.assertRaises(NoLog):
                    Tracker.of(log=thing)
            self.assertEqual(thing, held)


class AddTest(unittest.TestCase):
    def test_records_of_this_kind_alone(self):
        things = OTHERS + ["a", "+a@0", "-a@0", "^a@0", 0, [], [Inserted("a", 0)], (Removed("a", 0),),
                           {"a": Fronted("a", 0)}, nested(Inserted("a", 0), 6), "x" * 4000, [None] * 2000]
        things += [kind("q", 3) for kind in KINDS]
        for sign, kind in BY_SIGN.items():
            tracker = Tracker(sign)
            for thing in things:
                if not isinstance(thing, kind):
                    held = copy.deepcopy(thing)
                    with self.subTest(thing=thing):
                        with self.assertRaises(NoLog):
                            tracker.add(thing)
                        with self.assertRaises(NoLog):
                            tracker.add(record=thing)
                    self.assertEqual(thing, held)
            self.assertEqual(told(tracker), (sign, [], [], 1, 0, []))
            self.assertIsNone(tracker.add(kind("q", 3)))
            self.assertIsNone(tracker.add(record=kind("p", 60)))
            self.assertEqual(tracker.log, [kind("q", 3), kind("p", 60)])

    def test_an_item_with_a_record(self):
        for sign, kind in BY_SIGN.items():
            tracker = Tracker(sign)
            tracker.add(kind("a", 0))
            tracker.see("b", 0)
            tracker.mark()
            tracker.add(kind("b", 0))
            held = told(tracker)
            for record in [kind("a", 0), kind("a", 1), kind("b", 60)]:
                with self.assertRaises(NoLog):
                    tracker.add(record)
                self.assertEqual(told(tracker), held)
            tracker.undo()
            with self.assertRaises(NoLog):
                tracker.add(kind("a", 0))
            self.assertIsNone(tracker.add(kind("b", 5)))
            self.assertEqual(tracker.log, [kind("a", 0), kind("b", 5)])

    def test_record_forty_one(self):
        for sign, kind in BY_SIGN.items():
            tracker = Tracker(sign)
            for item in names(40):
                tracker.add(kind(item, 39))
            held = told(tracker)
            with self.assertRaises(NoLog):
                tracker.add(kind("x", 0))
            self.assertEqual(told(tracker), held)
            self.assertIsNone(tracker.see("aa", 39))
            tracker.undo()
            tracker.undo()
            self.assertIsNone(tracker.add(kind("x", 0)))
            self.assertEqual(tracker.log[39], kind("x", 0))
            with self.assertRaises(NoLog):
                tracker.add(kind("y", 0))

    def test_the_tracker_keeps_copies(self):
        for sign, kind in BY_SIGN.items():
            tracker = Tracker(sign)
            record = kind("a", 9)
            record.move_to(1)
            tracker.add(record)
            number = tracker.mark()
            twin = tracker.twin()
            record.move_to(0)
            tracker.add(kind("b", 1))
            expected = [kind("a", 1), kind("b", 1)]
            self.assertEqual(tracker.log, expected)
            found = tracker.log
            found[0].move_to(7)
            found.append(kind("c", 0))
            self.assertEqual(tracker.log, expected)
            self.assertEqual(twin.log, expected[:1])
            twin.log[0].move_to(8)
            for one, other in itertools.product(tracker.log + [record], tracker.log + twin.log):
                self.assertIsNot(one, other)
            tracker.undo_to(number)
            tracker.log.clear()
            self.assertEqual(tracker.log, expected[:1])
            self.assertEqual(record, kind("a", 0))
            self.assertEqual(tracker.ways, 0)
            seen = tracker.sightings
            seen.append(("z", 3))
            self.assertEqual(tracker.sightings, [])


class SeeTest(unittest.TestCase):
    def test_no_item(self):
        tracker = Tracker("+")
        for item in NO_ITEM_STRINGS + ["a@0", "+a@0", "abcdefghij", "?"]:
            for position in [0, -1, 40, 10 ** 59]:
                with self.subTest(item=item):
                    with self.assertRaises(NoItem):
                        tracker.see(item, position)
                    with self.assertRaises(NoItem):
                        tracker.see(position=position, item=item)
        self.assertEqual(told(tracker), ("+", [], [], 1, 0, []))

    def test_no_position(self):
        tracker = Tracker("^")
        for position in [40, 41, 60] + FAR_NUMBERS + [True, False, None, "0"]:
            with self.subTest(position=position):
                with self.assertRaises(NoPosition):
                    tracker.see("a", position)
                with self.assertRaises(NoPosition):
                    tracker.see(item="a", position=position)
        self.assertEqual(told(tracker), ("^", [], [], 1, 0, []))
        for position in range(40):
            self.assertIsNone(tracker.see(names(40)[position], position))
        self.assertEqual(tracker.sightings, list(zip(names(40), range(40))))

    def test_other_partners(self):
        tracker = Tracker("+")
        tracker.see("a", 3)
        tracker.see(item="b", position=0)
        held = told(tracker)
        for item, position in [("a", 0), ("a", 2), ("a", 39), ("c", 3), ("b", 3), ("b", 1), ("c", 0)]:
            with self.assertRaises(NoPosition):
                tracker.see(item, position)
            self.assertEqual(told(tracker), held)
        with self.assertRaises(NoItem):
            tracker.see("A", 3)
        tracker.undo()
        self.assertIsNone(tracker.see("c", 0))
        with self.assertRaises(NoPosition):
            tracker.see("b", 0)
        self.assertIsNone(tracker.see("b", 1))
        self.assertEqual(tracker.sightings, [("c", 0), ("b", 1), ("a", 3)])

    def test_the_same_sighting_again(self):
        tracker = Tracker("-")
        for many in range(1, 6):
            self.assertIsNone(tracker.see("a", 2))
            self.assertEqual(len(tracker), many)
            self.assertEqual(tracker.sightings, [("a", 2)])
        for many in range(4, 0, -1):
            tracker.undo()
            self.assertEqual(len(tracker), many)
            self.assertEqual(tracker.sightings, [("a", 2)])
            with self.assertRaises(NoPosition):
                tracker.see("a", 1)
        tracker.undo()
        self.assertEqual(tracker.sightings, [])
        self.assertIsNone(tracker.see("a", 1))

    def test_undoing_the_later_of_two_same_sightings(self):
        tracker = Tracker("+")
        tracker.see("a", 0)
        tracker.add(Inserted("a", 0))
        tracker.add(Inserted("b", 0))
        tracker.see("a", 0)
        tracker.undo()
        self.assertEqual(told(tracker), ("+", [Inserted("a", 0), Inserted("b", 0)], [("a", 0)], 1, 3, []))


class WaysTest(unittest.TestCase):
    def test_by_hand(self):
        tracker = Tracker("+")
        tracker.add(Inserted("a", 0))
        tracker.add(Inserted("b", 1))
        tracker.add(Inserted("c", 0))
        self.assertEqual(tracker.ways, 4)
        tracker.see("b", 1)
        self.assertEqual(tracker.ways, 2)
        tracker.see("a", 2)
        self.assertEqual(tracker.ways, 1)
        tracker.see("d", 3)
        self.assertEqual(tracker.ways, 0)
        tracker.undo()
        tracker.see("d", 0)
        self.assertEqual(tracker.ways, 0)

    def test_sightings_before_their_records(self):
        tracker = Tracker("+")
        tracker.see("b", 1)
        self.assertEqual(tracker.ways, 0)
        tracker.add(Inserted("b", 0))
        self.assertEqual(tracker.ways, 0)
        tracker.add(Inserted("a", 0))
        self.assertEqual(tracker.ways, 1)
        tracker.add(Inserted("c", 0))
        self.assertEqual(tracker.ways, 2)
        tracker.see("a", 2)
        self.assertEqual(tracker.ways, 1)
        tracker.add(Inserted("d", 3))
        self.assertEqual(tracker.ways, 1)
        tracker.see("e", 3)
        self.assertEqual(tracker.ways, 0)

    def test_all_short_logs(self):
        for sign, kind in BY_SIGN.items():
            for many in range(4):
                for slots in itertools.product(range(many + 1), repeat=many):
                    log = [kind(item, slot) for item, slot in zip("cab", slots)]
                    for places in itertools.permutations(range(many + 1), min(many, 2)):
                        self.compare(sign, log, places)

    def compare(self, sign, log, places):
        for own in itertools.permutations("bcd", len(places)):
            tracker = Tracker(sign)
            calls = [lambda r=record: tracker.add(r) for record in log]
            calls += [lambda i=item, p=place: tracker.see(i, p) for item, place in zip(own, places)]
            for call in shuffled(calls, sum(places)):
                call()
                self.assertEqual(tracker.ways, ways_by_trying(tracker.log, tracker.sightings))

    def test_forty_records(self):
        for sign, slot in [("+", 0), ("-", 0), ("^", 39)]:
            tracker = Tracker(sign)
            own = shuffled(names(40), 5)
            for many, item in enumerate(own):
                self.assertEqual(tracker.ways, 0 if sign == "^" and many else math.factorial(many))
                tracker.add(BY_SIGN[sign](item, slot))
            self.assertEqual(tracker.ways, math.factorial(40))
            for many, item in enumerate(own):
                tracker.see(item, 39 - many)
                self.assertEqual(tracker.ways, math.factorial(39 - many))
            self.assertEqual(tracker.sightings, [(item, place) for place, item in enumerate(own[::-1])])
            self.assertEqual(len(tracker), 80)

    def test_against_count(self):
        for sign, kind in BY_SIGN.items():
            for seed in range(6):
                draw = Draw(seed)
                tracker = Tracker(sign)
                own = shuffled(names(40), seed)
                slots = [place * (seed + 1) // 6 for place in range(40)]
                row = [None] * 40
                for item, slot in zip(own, slots):
                    tracker.add(kind(item, 39 - slot if sign == "^" else slot))
                for _ in range(12):
                    place = draw.below(40)
                    row[place] = (own[::-1] if sign == "^" else own)[place]
                    tracker.see(row[place], place)
                    self.assertEqual(tracker.ways, count(tracker.log, seen=row))
                self.assertGreater(tracker.ways, 0)


class UndoTest(unittest.TestCase):
    def test_by_hand(self):
        tracker = Tracker("+")
        a, b = Inserted("a", 0), Inserted("b", 0)
        self.assertEqual(tracker.mark(), 0)
        tracker.add(a)
        self.assertEqual(tracker.mark(), 1)
        self.assertEqual(tracker.mark(), 2)
        tracker.see("a", 1)
        self.assertEqual(tracker.mark(), 3)
        tracker.add(b)
        self.assertEqual(tracker.mark(), 4)
        self.assertEqual(len(tracker), 3)
        tracker.undo()
        self.assertEqual(marks_of(tracker), [([], [], 0), ([a], [], 1), ([a], [], 1), ([a], [("a", 1)], 2)])
        self.assertEqual(tracker.mark(), 4)
        tracker.add(b)
        self.assertIsNone(tracker.undo_to(1))
        self.assertEqual((tracker.log, tracker.sightings, len(tracker)), ([a], [], 1))
        self.assertEqual(marks_of(tracker), [([], [], 0), ([a], [], 1)])
        self.assertEqual(tracker.mark(), 2)
        self.assertIsNone(tracker.undo_to(mark=2))
        self.assertEqual(tracker.mark(), 3)
        tracker.undo()
        self.assertEqual(marks_of(tracker), [([], [], 0)])
        self.assertEqual(tracker.log, [])

    def test_a_mark_is_kept(self):
        tracker = Tracker("^")
        tracker.add(Fronted("a", 0))
        tracker.mark()
        for item in ["b", "c", "d"]:
            tracker.add(Fronted(item, 1))
            tracker.undo_to(0)
            self.assertEqual(tracker.log, [Fronted("a", 0)])
            self.assertEqual(len(tracker), 1)
        tracker.undo_to(0)
        self.assertEqual(tracker.mark(), 1)

    def test_marks_without_calls(self):
        tracker = Tracker("-")
        self.assertEqual([tracker.mark() for _ in range(5)], [0, 1, 2, 3, 4])
        with self.assertRaises(Nothing):
            tracker.undo()
        self.assertEqual(tracker.mark(), 5)
        self.assertIsNone(tracker.undo_to(2))
        self.assertEqual(tracker.mark(), 3)
        tracker.see("a", 0)
        self.assertEqual(tracker.mark(), 4)
        tracker.undo()
        self.assertEqual(tracker.mark(), 4)
        self.assertEqual(len(tracker), 0)

    def test_nothing(self):
        for sign in BY_SIGN:
            tracker = Tracker(sign)
            with self.assertRaises(Nothing):
                tracker.undo()
            tracker.add(BY_SIGN[sign]("a", 0))
            tracker.undo()
            with self.assertRaises(Nothing):
                tracker.undo()
            self.assertEqual(told(tracker), (sign, [], [], 1, 0, []))

    def test_no_number(self):
        tracker = Tracker("+")
        for number in FAR_NUMBERS + [0, 1, True, False]:
            with self.assertRaises(NoNumber):
                tracker.undo_to(number)
        tracker.mark()
        tracker.add(Inserted("a", 0))
        tracker.mark()
        tracker.see("a", 0)
        held = told(tracker)
        for number in FAR_NUMBERS + [2, 3, 39, 40, True, False, None, "0"]:
            with self.subTest(number=number):
                with self.assertRaises(NoNumber):
                    tracker.undo_to(number)
                with self.assertRaises(NoNumber):
                    tracker.undo_to(mark=number)
                self.assertEqual(told(tracker), held)
        tracker.undo_to(0)
        with self.assertRaises(NoNumber):
            tracker.undo_to(1)

    def test_results(self):
        tracker = Tracker("+")
        results = [tracker.add(Inserted("a", 0)), tracker.see("a", 0), tracker.undo(), tracker.undo(),
                   tracker.turn("-"), tracker.turn("+")]
        self.assertEqual(results, [None] * 6)
        tracker.mark()
        self.assertIsNone(tracker.undo_to(0))
        self.assertIsInstance(tracker.log, list)
        self.assertIsInstance(tracker.sightings, list)
        tracker.see("b", 3)
        self.assertIsInstance(tracker.sightings[0], tuple)
        self.assertIsInstance(tracker.twin(), Tracker)


class TwinTest(unittest.TestCase):
    def test_marks_included(self):
        tracker = Tracker("+")
        tracker.add(Inserted("a", 0))
        tracker.mark()
        tracker.see("a", 1)
        tracker.add(Inserted("b", 0))
        tracker.mark()
        twin = tracker.twin()
        self.assertIsNot(twin, tracker)
        self.assertEqual(told(twin), told(tracker))
        self.assertEqual(twin.mark(), 2)
        self.assertEqual(tracker.mark(), 2)

    def test_neither_changes_the_other(self):
        for changes in itertools.permutations(["add", "see", "undo", "mark", "back", "turn"], 3):
            one = Tracker("+")
            one.mark()
            one.add(Inserted("a", 0))
            one.see("a", 0)
            one.mark()
            other = one.twin()
            for first, second in [(one, other), (other, one)]:
                held = told(second)
                for word in changes:
                    self.change(first, word)
                    self.assertEqual(told(second), held)

    def change(self, tracker, word):
        if word == "add":
            tracker.add(BY_SIGN[tracker.sign]("z" * (len(tracker) + 1), 0))
        elif word == "see":
            tracker.see("y", 9)
        elif word == "undo" and len(tracker) > 0:
            tracker.undo()
        elif word == "mark":
            tracker.mark()
        elif word == "back":
            tracker.undo_to(0)
        elif word == "turn":
            while tracker.log:
                tracker.undo()
            tracker.turn("^")

    def test_twin_of_a_turned_tracker(self):
        tracker = Tracker("+")
        tracker.turn("-")
        twin = tracker.twin()
        self.assertEqual(twin.sign, "-")
        twin.turn("^")
        self.assertEqual((tracker.sign, twin.sign), ("-", "^"))


class Model:
    """What point 12 says of a tracker, with the time of each call and the whole state at each mark."""

    def __init__(self, sign):
        self.sign, self.time, self.calls, self.marks = sign, 0, [], []

    def records(self):
        return [what for _, word, what in self.calls if word == "add"]

    def seen(self):
        return [what for _, word, what in self.calls if word == "see"]

    def do(self, word, *arguments):
        """Do a call, and give its result, or its error."""
        self.time += 1
        return getattr(self, word)(*arguments)

    def add(self, record):
        items = [other.item for other in self.records()]
        if record.SIGN != self.sign or record.item in items or len(items) == 40:
            return NoLog
        self.calls.append((self.time, "add", copy.copy(record)))
        return None

    def see(self, item, position):
        if not item.islower():
            return NoItem
        if not 0 <= position <= 39:
            return NoPosition
        for other, place in self.seen():
            if (other == item and place != position) or (other != item and place == position):
                return NoPosition
        self.calls.append((self.time, "see", (item, position)))
        return None

    def undo(self):
        if not self.calls:
            return Nothing
        undone, _, _ = self.calls.pop()
        self.marks = [(time, calls) for time, calls in self.marks if time < undone]
        return None

    def mark(self):
        self.marks.append((self.time, list(self.calls)))
        return len(self.marks) - 1

    def undo_to(self, mark):
        if not 0 <= mark < len(self.marks):
            return NoNumber
        self.calls = list(self.marks[mark][1])
        self.marks = self.marks[:mark + 1]
        return None

    def turn(self, sign):
        if sign not in BY_SIGN:
            return NoLog
        if self.records():
            return Nothing
        self.sign = sign
        return None

    def twin(self):
        made = Model(self.sign)
        made.time, made.calls, made.marks = self.time, list(self.calls), list(self.marks)
        return made


class HistoryTest(unittest.TestCase):
    def drawn(self, draw, model):
        """Draw a call; most of them can be made."""
        word = draw.pick(["add"] * 5 + ["see"] * 5 + ["undo"] * 3 + ["mark"] * 4 + ["undo_to", "turn"])
        item = draw.pick(["a", "b", "c", "d", "e", "f", "A"])
        if word == "add":
            item = item.lower()
            return word, draw.pick([BY_SIGN[model.sign]] * 6 + [Record, Inserted])(item, draw.below(4))
        if word == "see":
            return word, item, draw.pick([draw.below(5), draw.below(5), draw.below(42) - 1])
        if word == "undo_to":
            return word, draw.below(len(model.marks) + 2) - 1
        if word == "turn":
            return word, draw.pick(["+", "-", "^", "x"])
        return (word,)

    def do(self, tracker, call):
        """Do a call, and give its result, or its error."""
        word, *arguments = call
        try:
            return getattr(tracker, word)(*arguments)
        except (NoItem, NoLog, NoNumber, NoPosition, Nothing) as error:
            return error.__class__

    def compare(self, tracker, model):
        log = model.records()
        self.assertEqual(tracker.sign, model.sign)
        self.assertEqual(tracker.log, log)
        seen = sorted(set(model.seen()), key=lambda pair: pair[1])
        self.assertEqual(tracker.sightings, seen)
        self.assertEqual(tracker.ways, ways_by_trying(log, seen))
        self.assertEqual(len(tracker), len(model.calls))
        self.assertEqual(tracker.twin().mark(), len(model.marks))

    def compare_marks(self, tracker, model):
        for number in range(len(model.marks)):
            back, held = tracker.twin(), model.twin()
            back.undo_to(number)
            held.undo_to(number)
            self.compare(back, held)

    def test_long_histories(self):
        for seed in range(36):
            draw = Draw(seed)
            sign = "+-^"[seed % 3]
            tracker, model, many, errors = Tracker(sign), Model(sign), 0, set()
            while many < 200:
                call = self.drawn(draw, model)
                expected = model.do(*call)
                self.assertEqual(self.do(tracker, call), expected)
                errors.add(expected)
                many += isinstance(expected, int) or expected is None
                self.compare(tracker, model)
                if many % 20 == 0:
                    self.compare_marks(tracker, model)
            self.assertLessEqual({NoLog, NoPosition, NoItem, None}, errors)

    def test_twins_in_long_histories(self):
        for seed in range(12):
            draw = Draw(seed + 100)
            sign = "+-^"[seed % 3]
            pairs = [(Tracker(sign), Model(sign))]
            for step in range(150):
                if step % 50 == 20:
                    tracker, model = draw.pick(pairs)
                    pairs.append((tracker.twin(), model.twin()))
                tracker, model = draw.pick(pairs)
                call = self.drawn(draw, model)
                self.assertEqual(self.do(tracker, call), model.do(*call))
                for each in pairs:
                    self.compare(*each)
            for each in pairs:
                self.compare_marks(*each)

    def test_forty_records_and_undo(self):
        for sign, kind in BY_SIGN.items():
            tracker = Tracker(sign)
            own = shuffled(names(40), 3)
            for number, item in enumerate(own):
                self.assertEqual(tracker.mark(), number)
                tracker.add(kind(item, 0))
            for number in range(39, -1, -7):
                twin = tracker.twin()
                twin.undo_to(number)
                self.assertEqual([record.item for record in twin.log], own[:number])
                self.assertEqual(twin.mark(), number + 1)
            for left in range(39, 19, -1):
                tracker.undo()
                self.assertEqual(len(tracker), left)
                self.assertEqual(tracker.twin().mark(), left + 1)


if __name__ == "__main__":
    unittest.main()
