"""Tests of points 2, 3 and 7: logs, and records that are applied one after another."""

import copy
import itertools
import unittest

from indexlogs.errors import Impossible, NoList, NoLog
from indexlogs.records import Fronted, Inserted, Record, Removed
from indexlogs.replay import is_log, replay, states
from samples import KINDS, NO_LISTS, NO_RECORD_LISTS, names


def mixed_records(many):
    """Give a list of items and so many records of all kinds that can be applied to it one after another."""
    items = names(8)
    records, now = [], list(items)
    for k in range(many):
        slot = k * 7 // 3 % len(now)
        if k % 4 in (0, 3):
            record = Inserted("x" + names(many)[k], slot)
            now.insert(slot, record.item)
        elif k % 4 == 1:
            record = Fronted(now[slot], slot)
            now.insert(0, now.pop(slot))
        else:
            record = Removed(now[slot], slot)
            now.pop(slot)
        records.append(record)
    return items, records, now


class IsLogTest(unittest.TestCase):
    def test_names_and_places(self):
        for function in [is_log, replay, states]:
            self.assertEqual(function.__module__, "indexlogs.replay")
        self.assertIs(is_log(thing=[Inserted("a", 0)]), True)
        self.assertIs(is_log(thing="a"), False)

    def test_empty_log(self):
        self.assertIs(is_log([]), True)

    def test_logs_of_each_kind(self):
        for kind in KINDS:
            self.assertIs(is_log([kind("a", 0)]), True)
            self.assertIs(is_log([kind("a", 60), kind("b", 60), kind("c", 0)]), True)

    def test_forty_and_forty_one(self):
        for kind in KINDS:
            records = [kind(item, 5) for item in names(60)]
            for many in range(61):
                self.assertIs(is_log(records[:many]), many <= 40)

    def test_two_kinds(self):
        for first, second in itertools.permutations(KINDS, 2):
            self.assertIs(is_log([first("a", 0), second("b", 0)]), False)
            self.assertIs(is_log([first("a", 0), first("b", 0), second("c", 0)]), False)
            self.assertIs(is_log([first(item, 0) for item in names(39)] + [second("x", 0)]), False)

    def test_an_item_twice(self):
        for kind in KINDS:
            record = kind("a", 0)
            self.assertIs(is_log([record, record]), False)
            self.assertIs(is_log([kind("a", 0), kind("a", 0)]), False)
            self.assertIs(is_log([kind("a", 0), kind("b", 0), kind("a", 1)]), False)
            self.assertIs(is_log([kind(item, 0) for item in names(39)] + [kind("aa", 1)]), False)

    def test_no_kind(self):
        self.assertIs(is_log([Record("a", 0)]), False)
        for kind in KINDS:
            self.assertIs(is_log([kind("a", 0), Record("b", 0)]), False)
            self.assertIs(is_log([Record("b", 0), kind("a", 0)]), False)

    def test_other_objects(self):
        for thing in NO_RECORD_LISTS:
            with self.subTest(thing=thing):
                held = copy.deepcopy(thing)
                self.assertIs(is_log(thing), False)
                self.assertEqual(thing, held)

    def test_moved_records_stay_a_log(self):
        log = [Fronted("a", 0), Fronted("b", 0)]
        log[1].move_to(60)
        self.assertIs(is_log(log), True)
        self.assertEqual(log, [Fronted("a", 0), Fronted("b", 60)])


class ReplayTest(unittest.TestCase):
    def assert_impossible(self, items, records, number):
        """Check both functions: the record with this number is the first that cannot be applied."""
        held = copy.deepcopy((items, records))
        with self.assertRaises(Impossible) as caught:
            replay(items, records)
        self.assertEqual(caught.exception.reason, number)
        found = []
        with self.assertRaises(Impossible) as caught:
            for now in states(items, records):
                found.append(now)
        self.assertEqual(caught.exception.reason, number)
        self.assertEqual(len(found), number + 1)
        self.assertEqual(found[-1], replay(items, records[:number]))
        self.assertEqual((items, records), held)

    def test_by_hand(self):
        self.assertEqual(replay([], []), [])
        self.assertEqual(replay([], [Inserted("a", 0), Inserted("b", 0), Inserted("c", 1)]), ["b", "c", "a"])
        self.assertEqual(replay(["a", "b", "c"], [Removed("b", 1), Removed("a", 0)]), ["c"])
        self.assertEqual(replay(["a", "b", "c"], [Fronted("c", 2), Fronted("b", 2)]), ["b", "c", "a"])
        mixed = [Inserted("x", 2), Fronted("x", 2), Removed("a", 1), Inserted("a", 2)]
        self.assertEqual(replay(["a", "b"], mixed), ["x", "b", "a"])
        self.assertEqual(replay(items=["a"], records=[Removed("a", 0)]), [])

    def test_the_order_counts(self):
        self.assertEqual(replay([], [Inserted("a", 0), Inserted("b", 0)]), ["b", "a"])
        self.assertEqual(replay([], [Inserted("b", 0), Inserted("a", 0)]), ["a", "b"])

    def test_new_list(self):
        items = ["a", "b"]
        for records in [[], [Fronted("a", 0)], [Fronted("b", 1)]]:
            found = replay(items, records)
            self.assertIsNot(found, items)
            found.append("z")
            self.assertEqual(items, ["a", "b"])
            self.assertIsNot(replay(items, records), replay(items, records))

    def test_same_item_again(self):
        record = Fronted("a", 0)
        self.assertEqual(replay(["a", "b"], [record] * 80), ["a", "b"])
        pair = [Inserted("a", 0), Removed("a", 0)]
        self.assertEqual(replay(["b"], pair * 40), ["b"])
        self.assert_impossible([], [pair[0], pair[0]], 1)

    def test_up_to_eighty_records(self):
        items, records, now = mixed_records(80)
        self.assertEqual(len(records), 80)
        held = copy.deepcopy((items, records))
        self.assertEqual(replay(items, records), now)
        for many in range(81):
            expected = items
            for record in records[:many]:
                expected = record.applied(expected)
            self.assertEqual(replay(items, records[:many]), expected)
        self.assertEqual((items, records), held)

    def test_full_lists(self):
        filled = [Inserted(item, k) for k, item in enumerate(names(60))]
        self.assertEqual(replay([], filled), names(60))
        self.assert_impossible([], filled + [Inserted("x", 0)], 60)
        self.assertEqual(replay([], filled + [Removed("aa", 0), Inserted("x", 59)])[-1], "x")
        self.assertEqual(replay(names(60), []), names(60))

    def test_first_that_cannot_be_applied(self):
        self.assert_impossible([], [Removed("a", 0)], 0)
        self.assert_impossible(["a"], [Inserted("a", 0)], 0)
        self.assert_impossible(["a"], [Fronted("a", 1), Removed("b", 0)], 0)
        self.assert_impossible([], [Inserted("a", 0), Inserted("b", 2), Inserted("c", 1)], 1)
        self.assert_impossible(["a", "b"], [Removed("a", 0), Removed("b", 1)], 1)
        items, records, _ = mixed_records(80)
        for number in range(80):
            wrong = records[:number] + [Removed("nowhere", 0)] + records[number + 1:]
            self.assert_impossible(items, wrong, number)

    def test_no_list(self):
        for thing in NO_LISTS:
            held = copy.deepcopy(thing)
            for records in [[], [Inserted("x", 0)], [Record("a", 0)], None]:
                with self.subTest(thing=thing):
                    with self.assertRaises(NoList):
                        replay(thing, records)
                    with self.assertRaises(NoList):
                        replay(records=records, items=thing)
                    with self.assertRaises(NoList):
                        next(states(thing, records))
                    with self.assertRaises(NoList):
                        next(states(records=records, items=thing))
            self.assertEqual(thing, held)

    def test_no_log(self):
        eighty_one = [Fronted("a", 0)] * 81
        for thing in NO_RECORD_LISTS + [eighty_one, [Removed("nowhere", 0), Record("a", 0)]]:
            held = copy.deepcopy(thing)
            for items in [["a"], []]:
                with self.subTest(thing=thing):
                    with self.assertRaises(NoLog):
                        replay(items, thing)
                    with self.assertRaises(NoLog):
                        next(states(items, thing))
            self.assertEqual(thing, held)


class StatesTest(unittest.TestCase):
    def test_by_hand(self):
        mixed = [Inserted("x", 2), Fronted("x", 2), Removed("a", 1)]
        expected = [["a", "b"], ["a", "b", "x"], ["x", "a", "b"], ["x", "b"]]
        self.assertEqual(list(states(["a", "b"], mixed)), expected)
        self.assertEqual(list(states(items=["a", "b"], records=mixed)), expected)
        self.assertEqual(list(states([], [])), [[]])
        self.assertEqual(list(states(["a"], [])), [["a"]])

    def test_one_list_more_than_records(self):
        items, records, now = mixed_records(80)
        for many in [0, 1, 2, 40, 79, 80]:
            found = list(states(items, records[:many]))
            self.assertEqual(len(found), many + 1)
            for number, row in enumerate(found):
                self.assertEqual(row, replay(items, records[:number]))
        self.assertEqual(found[-1], now)

    def test_each_list_is_new(self):
        items = ["a", "b"]
        records = [Fronted("a", 0), Fronted("a", 0), Fronted("b", 1)]
        found = list(states(items, records))
        for one, other in itertools.combinations(found + [items], 2):
            self.assertIsNot(one, other)
        for row in found:
            row.clear()
        self.assertEqual(items, ["a", "b"])

    def test_changed_lists_change_nothing_later(self):
        items, records, _ = mixed_records(40)
        expected = list(states(items, records))
        held = copy.deepcopy((items, records))
        for spoil in [lambda row: row.clear(), lambda row: row.append(None), lambda row: row.reverse()]:
            seen = []
            for row in states(items, records):
                seen.append(list(row))
                spoil(row)
            self.assertEqual(seen, expected)
        self.assertEqual((items, records), held)

    def test_stopped_early(self):
        items, records, _ = mixed_records(10)
        for many in range(11):
            run = states(items, records)
            for number in range(many):
                self.assertEqual(next(run), replay(items, records[:number]))
            run.close()
        self.assertEqual(len(list(states(items, records))), 11)
        self.assertEqual(next(states(["a"], [Removed("b", 0)])), ["a"])

    def test_two_runs_side_by_side(self):
        items, records, _ = mixed_records(12)
        first, second = states(items, records), states(items, records)
        next(first)
        ahead = [next(first) for _ in range(6)]
        behind = [next(second) for _ in range(4)]
        self.assertEqual(ahead, [replay(items, records[:k]) for k in range(1, 7)])
        self.assertEqual(behind, [replay(items, records[:k]) for k in range(4)])
        for row in ahead + behind:
            row.clear()
        for k in range(7, 13):
            self.assertEqual(next(first), replay(items, records[:k]))
            self.assertEqual(next(second), replay(items, records[:k - 3]))

    def test_impossible_where_it_is_reached(self):
        run = states(["a"], [Inserted("b", 0), Removed("a", 0), Removed("a", 1)])
        self.assertEqual(next(run), ["a"])
        self.assertEqual(next(run), ["b", "a"])
        with self.assertRaises(Impossible) as caught:
            next(run)
        self.assertEqual(caught.exception.reason, 1)


class BackwardsTest(unittest.TestCase):
    def test_taking_back_leads_to_the_first_list(self):
        items, records, now = mixed_records(80)
        rows = list(states(items, records))
        for number in range(79, -1, -1):
            now = records[number].taken_back(now)
            self.assertEqual(now, rows[number])
        self.assertEqual(now, items)

    def test_every_short_run(self):
        records = [kind(item, slot) for kind in KINDS for item in "abc" for slot in range(3)]
        for pair in itertools.product(records, records):
            try:
                now = replay(["a", "b"], list(pair))
            except Impossible:
                continue
            for record in reversed(pair):
                now = record.taken_back(now)
            self.assertEqual(now, ["a", "b"])

    def test_records_read_from_their_texts(self):
        items, records, now = mixed_records(80)
        copies = [Record.read(record.text) for record in records]
        self.assertEqual(copies, records)
        self.assertEqual(replay(items, copies), now)
        self.assertEqual(list(states(items, copies)), list(states(items, records)))
        for record in copies[::-1]:
            now = record.taken_back(now)
        self.assertEqual(now, items)
