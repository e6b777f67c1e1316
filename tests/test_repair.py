"""Tests of points 2, 3, 4, 10 and 11: wrong indices, the nearest ones, and what closed lists lack."""

import copy
import itertools
import unittest

from indexlogs.errors import NoList, NoLog
from indexlogs.lists import conflict, count
from indexlogs.orders import index_range, log_of, reason, shows
from indexlogs.records import Fronted, Inserted, Removed
from indexlogs.repair import least_missing, nearest, usable, wrong_items
from samples import KINDS, NO_LISTS, NO_LOGS, Draw, names, shuffled
from trying import closed_by_trying, is_closed, orders_by_trying

GROWN = [Inserted, Removed]
TO_KNOWN = [wrong_items, nearest]
TO_LOG = [least_missing, usable]


def log_with(kind, own, slots):
    return [kind(item, slot) for item, slot in zip(own, slots)]


class ByTryingTest(unittest.TestCase):
    def test_names_and_places(self):
        for function in TO_KNOWN + TO_LOG:
            self.assertEqual(function.__module__, "indexlogs.repair")

    def test_all_orders_of_short_logs(self):
        for kind in KINDS:
            for length in range(5):
                items = ["d", "a", "c", "b"][:length]
                for many in range(min(length, 3) + 1):
                    for own in itertools.combinations(items[::-1], many):
                        self.compare(kind, own, items, range(length + 2))
            self.compare(kind, ["c", "b", "d", "a"], ["d", "a", "c", "b"], range(5))

    def compare(self, kind, own, items, slots):
        logs = [log_with(kind, own, each) for each in itertools.product(slots, repeat=len(own))]
        happened = [log for log in logs if orders_by_trying(log, items)]
        # An index that no log that has happened has for the item, whatever its other indices are, is wrong.
        right = [sorted({log[at].slot for log in happened}) for at in range(len(own))]
        for log in logs:
            wrong = [record.item for record, each in zip(log, right) if record.slot not in each]
            self.assertEqual(wrong_items(log, items), [item for item in items if item in wrong])
            best = [min(each, key=lambda slot: abs(slot - record.slot)) for record, each in zip(log, right)]
            found = nearest(log, items)
            self.assertEqual(found, log_with(kind, own, best))
            self.assertIn(found, happened)
            if log in happened:
                self.assertEqual(found, log)
                self.assertEqual(wrong_items(log, items), [])


class WrongItemsTest(unittest.TestCase):
    def test_by_hand(self):
        log = [Inserted("a", 1), Inserted("b", 0), Inserted("c", 0), Inserted("d", 9), Inserted("e", 5)]
        items = ["a", "x", "y", "b", "c", "d", "e"]
        self.assertEqual(wrong_items(log, items), ["a", "b", "c", "d"])
        self.assertEqual(wrong_items(log[::-1], items), ["a", "b", "c", "d"])
        self.assertEqual(wrong_items(log=log[4:], items=items), ["e"])
        self.assertEqual(wrong_items([Removed("b", 0)], ["a", "b"]), ["b"])
        self.assertEqual(wrong_items([Removed("b", 1), Removed("c", 3)], ["a", "b", "c"]), ["c"])
        self.assertEqual(wrong_items([Fronted("a", 1), Fronted("b", 0)], ["a", "b"]), ["b"])
        self.assertEqual(wrong_items([Fronted("a", 1)], ["a", "b"]), ["a"])

    def test_bounds_of_the_range(self):
        for kind in GROWN:
            for slot, wrong in [(0, True), (1, False), (3, False), (4, True), (60, True)]:
                log = [kind("c", slot), kind("a", 0), kind("b", 1)]
                self.assertEqual(wrong_items(log, ["a", "b", "x", "c"]), ["c"] if wrong else [])
        for slot, wrong in [(0, True), (1, False), (3, False), (4, True), (60, True)]:
            log = [Fronted("b", 3), Fronted("c", 3), Fronted("a", slot)]
            self.assertEqual(wrong_items(log, ["x", "a", "b", "c"]), ["a"] if wrong else [])

    def test_empty_log(self):
        for items in [[], ["a"], names(60)]:
            self.assertEqual(wrong_items([], items), [])
            self.assertEqual(nearest([], items), [])

    def test_long_logs(self):
        for kind in KINDS:
            for seed in range(8):
                items = shuffled(names(60), seed)
                own = shuffled(items, seed + 9)[:40 - seed]
                log = log_of(kind.SIGN, items, own)
                self.assertEqual(wrong_items(log, items), [])
                draw = Draw(seed)
                for record in log:
                    if draw.below(2) == 0:
                        record.move_to(draw.below(61))
                ranges = {item: index_range(log, items, item) for item in own}
                wrong = [r.item for r in log if not ranges[r.item][0] <= r.slot <= ranges[r.item][1]]
                self.assertGreater(len(wrong), 3)
                found = wrong_items(log, items)
                self.assertEqual(found, [item for item in items if item in wrong])
                self.assertEqual(reason(log, items)[1], found[0])
                for item in items:
                    shown = shows(log, items, ("low", item)) or shows(log, items, ("high", item))
                    self.assertEqual(shown, item in found)

    def test_new_list(self):
        log, items = [Inserted("b", 9), Inserted("a", 9)], ["a", "b"]
        found = wrong_items(log, items)
        self.assertEqual(found, ["a", "b"])
        found.clear()
        self.assertEqual(wrong_items(log, items), ["a", "b"])
        self.assertEqual(items, ["a", "b"])


class NearestTest(unittest.TestCase):
    def test_by_hand(self):
        log = [Inserted("d", 9), Inserted("b", 0), Inserted("a", 1), Inserted("c", 1)]
        items = ["a", "x", "y", "b", "c", "d"]
        self.assertEqual(nearest(log, items), [Inserted("d", 5), Inserted("b", 2), Inserted("a", 0), Inserted("c", 2)])
        self.assertEqual(nearest(log=log[1:2], items=items), [Inserted("b", 3)])
        self.assertEqual(nearest([Removed("b", 0), Removed("a", 60)], ["a", "b"]), [Removed("b", 0), Removed("a", 0)])
        self.assertEqual(nearest([Fronted("b", 0), Fronted("a", 60)], ["a", "b"]), [Fronted("b", 1), Fronted("a", 1)])

    def test_long_logs(self):
        for kind in KINDS:
            for seed in range(8):
                items = shuffled(names(60), seed)
                log = log_of(kind.SIGN, items, shuffled(items, seed + 9)[:40])
                draw = Draw(seed)
                for record in log:
                    record.move_to(draw.below(61))
                held = copy.deepcopy((log, items))
                found = nearest(log, items)
                self.assertEqual([record.item for record in found], [record.item for record in log])
                self.assertEqual([record.__class__ for record in found], [kind] * 40)
                self.assertIsNone(reason(found, items))
                wrong = wrong_items(log, items)
                for record, other in zip(log, found):
                    low, high = index_range(log, items, record.item)
                    if record.item in wrong:
                        self.assertEqual(other.slot, low if record.slot < low else high)
                    else:
                        self.assertEqual(other, record)
                self.assertEqual((log, items), held)

    def test_the_greatest_indices(self):
        items = names(60)
        self.assertEqual(nearest([Inserted(items[59], 60)], items), [Inserted(items[59], 59)])
        self.assertEqual(nearest([Fronted(items[20 + k], 60) for k in range(40)], items),
                         [Fronted(items[20 + k], 59) for k in range(40)])

    def test_new_records(self):
        for kind in KINDS:
            log, items = [kind("b", 1), kind("a", 60), kind("c", 60)], ["a", "b", "c"]
            held = copy.deepcopy(log)
            found = nearest(log, items)
            for one, other in itertools.product(found, log):
                self.assertIsNot(one, other)
            for record in found:
                record.move_to(7)
            found.clear()
            self.assertEqual(log, held)
            self.assertEqual(nearest(log, items)[0], kind("b", 1))


class LeastMissingTest(unittest.TestCase):
    def test_by_hand(self):
        for kind in GROWN:
            self.assertEqual(least_missing([kind("a", 0)]), 0)
            self.assertEqual(least_missing([kind("a", 1)]), 1)
            self.assertEqual(least_missing([kind("a", 1), kind("b", 1)]), 1)
            self.assertEqual(least_missing([kind("a", 2), kind("b", 0)]), 1)
            self.assertEqual(least_missing([kind("a", 2), kind("b", 2)]), 2)
            self.assertEqual(least_missing(log=[kind("a", 4), kind("b", 1), kind("c", 0)]), 2)
        self.assertEqual(least_missing([]), 0)
        self.assertEqual(usable([]), [])

    def test_by_trying_further_records(self):
        for many in range(4):
            for slots in itertools.combinations_with_replacement(range(5), many):
                expected = self.least_by_trying(list(slots))
                for kind in GROWN:
                    own = shuffled(slots, sum(slots))
                    self.assertEqual(least_missing(log_with(kind, ["c", "a", "d"], own)), expected)

    def least_by_trying(self, slots):
        for further in range(10):
            places = range(len(slots) + further)
            for others in itertools.combinations_with_replacement(places, further):
                log = log_with(Inserted, names(10), slots + list(others))
                if len(log) <= 5:
                    # Whether R3 is used rightly for longer ones, these show.
                    self.assertEqual(len(closed_by_trying(log)) > 0, is_closed(slots + list(others)))
                if is_closed(slots + list(others)):
                    return further
        return None

    def test_further_records_in_the_bounds(self):
        draw = Draw(3)
        for kind in GROWN:
            for many in range(1, 21):
                slots = [draw.below(many + 4) for _ in range(many)]
                log = log_with(kind, names(many), slots)
                lack = least_missing(log)
                extra = [kind(item, 0) for item in names(60)[30:30 + lack]]
                self.assertGreater(count(log + extra), 0)
                if lack > 0:
                    self.assertIsNotNone(conflict(log + extra[1:]))
                self.assertEqual(lack == 0, count(log) > 0)

    def test_beyond_the_bounds(self):
        for kind in GROWN:
            self.assertEqual(least_missing([kind("a", 60)]), 60)
            self.assertEqual(least_missing([kind(item, 60) for item in names(40)]), 60)
            self.assertEqual(least_missing([kind(item, 60 if k else 0) for k, item in enumerate(names(40))]), 59)
            self.assertEqual(least_missing([kind(item, 0 if k else 60) for k, item in enumerate(names(40))]), 21)
            self.assertEqual(least_missing([kind(item, 21 + k) for k, item in enumerate(names(40))]), 21)
            self.assertEqual(least_missing([kind(item, k) for k, item in enumerate(names(40))]), 0)

    def test_forty_records(self):
        draw = Draw(11)
        for seed in range(30):
            slots = [draw.below(20 + seed * 41 // 29) for _ in range(40)]
            lack = least_missing(log_with(GROWN[seed % 2], names(40), slots))
            self.assertTrue(is_closed(slots + [0] * lack))
            if lack > 0:
                self.assertFalse(is_closed(slots + [0] * (lack - 1)))
                for _ in range(20):
                    self.assertFalse(is_closed(slots + [draw.below(61) for _ in range(lack - 1)]))


class UsableTest(unittest.TestCase):
    def test_by_hand(self):
        for kind in GROWN:
            a, b, c, d = [kind("a", 4), kind("b", 0), kind("c", 1), kind("d", 3)]
            self.assertEqual(usable([a, b, c, d]), [b, c])
            self.assertEqual(usable([d, c, b]), [c, b])
            self.assertEqual(usable(log=[a, c, d]), [])
            self.assertEqual(usable([kind("a", 1), kind("b", 1), kind("c", 0)]),
                             [kind("a", 1), kind("b", 1), kind("c", 0)])

    def test_all_sets_of_short_logs(self):
        for kind in GROWN:
            for many in range(6):
                for slots in list(itertools.product(range(many + 1), repeat=many))[::1 if many < 4 else 17]:
                    self.compare(log_with(kind, ["b", "e", "a", "d", "c"], slots))

    def compare(self, log):
        held = copy.deepcopy(log)
        found = usable(log)
        self.assertEqual(log, held)
        for many in range(len(log), -1, -1):
            closed = [list(each) for each in itertools.combinations(log, many) if closed_by_trying(list(each))]
            if closed:
                # There is only one greatest set, and combinations keep the order of log.
                self.assertEqual([found], closed)
                return

    def test_forty_records(self):
        draw = Draw(4)
        for seed in range(40):
            slots = [draw.below(2 + seed) * draw.below(2) for _ in range(40)]
            log = log_with(GROWN[seed % 2], shuffled(names(40), seed), slots)
            found = usable(log)
            slots = sorted(slots)
            many = max(k for k in range(41) if is_closed(slots[:k]))
            self.assertEqual(len(found), many)
            self.assertGreater(count(found), 0)
            self.assertEqual(found, [record for record in log if record in found])
            self.assertEqual(found == log, least_missing(log) == 0)
            self.assertEqual(usable(found), found)

    def test_ends(self):
        for kind in GROWN:
            every = [kind(item, 0) for item in names(40)]
            self.assertEqual(usable(every), every)
            staired = [kind(item, k) for k, item in enumerate(names(40))][::-1]
            self.assertEqual(usable(staired), staired)
            self.assertEqual(usable([kind(item, 60) for item in names(40)]), [])
            self.assertEqual(usable([kind(item, k + 1) for k, item in enumerate(names(40))]), [])
            self.assertEqual(usable([kind(item, k if k < 20 else 60) for k, item in enumerate(names(40))]),
                             [kind(item, k) for k, item in enumerate(names(20))])

    def test_new_records(self):
        for kind in GROWN:
            log = [kind("b", 1), kind("a", 0), kind("c", 9)]
            held = copy.deepcopy(log)
            found = usable(log)
            for one, other in itertools.product(found, log):
                self.assertIsNot(one, other)
            self.assertEqual([record.__class__ for record in found], [kind] * 2)
            for record in found:
                record.move_to(60)
            found.clear()
            self.assertEqual(log, held)
            self.assertEqual(usable(log), held[:2])


class WrongArgumentsTest(unittest.TestCase):
    def test_no_log(self):
        for thing in NO_LOGS:
            held = copy.deepcopy(thing)
            with self.subTest(thing=thing):
                for function in TO_LOG:
                    with self.assertRaises(NoLog):
                        function(thing)
                    with self.assertRaises(NoLog):
                        function(log=thing)
                for function in TO_KNOWN:
                    for items in [["a"], [], None, names(61), thing]:
                        with self.assertRaises(NoLog):
                            function(thing, items)
                        with self.assertRaises(NoLog):
                            function(items=items, log=thing)
            self.assertEqual(thing, held)

    def test_moves_to_the_front(self):
        for log in [[Fronted("a", 0)], [Fronted("a", 1), Fronted("b", 0)], [Fronted(item, 39) for item in names(40)]]:
            for function in TO_LOG:
                with self.assertRaises(NoLog):
                    function(log)
                with self.assertRaises(NoLog):
                    function(log=log)

    def test_no_list(self):
        for thing in NO_LISTS:
            held = copy.deepcopy(thing)
            for log in [[Inserted("a", 0)], [Removed("a", 0), Removed("b", 0)], [Fronted("a", 60)], []]:
                for function in TO_KNOWN:
                    with self.subTest(thing=thing), self.assertRaises(NoList):
                        function(log, thing)
            self.assertEqual(thing, held)

    def test_lists_that_are_no_known_list(self):
        for kind in KINDS:
            log = [kind("a", 0), kind("b", 0)]
            for items in [[], ["a"], ["b"], ["c", "d"], ["a", "c"], ["b", "c", "d"], ["ab"], names(60)]:
                for function in TO_KNOWN:
                    with self.assertRaises(NoList):
                        function(log, items)
                    with self.assertRaises(NoList):
                        function(items=items, log=log)


if __name__ == "__main__":
    unittest.main()
