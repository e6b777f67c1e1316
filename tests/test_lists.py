"""Tests of points 2, 3, 4 and 10: the closed lists of a log."""

import copy
import itertools
import math
import unittest
from fractions import Fraction

from indexlogs.errors import Impossible, NoItem, NoList, NoLog, NoNumber, NoPosition, NoSeen
from indexlogs.lists import (
    certain, conflict, count, list_number, nth_list, positions, possible_lists, share, shows_conflict)
from indexlogs.orders import reason
from indexlogs.records import Fronted, Inserted, Record, Removed
from samples import KINDS, NO_LISTS, NO_LOGS, OTHERS, names, nested, partial, shuffled

FAR_NUMBERS = [-1, -2, 10 ** 59, 10 ** 60 - 1, -(10 ** 60 - 1)]


def lists_by_trying(log):
    """Give all closed lists of the log in ascending order: all lists of its items with which it can have happened."""
    own = sorted(record.item for record in log)
    return [list(row) for row in itertools.permutations(own) if reason(log, list(row)) is None]


def agrees(row, seen):
    return seen is None or all(entry is None or entry == item for item, entry in zip(row, seen))


def certificates_by_definition(log, seen):
    """Give all true certificates, in the order in which point 10 names them."""
    seen = seen or [None] * len(log)
    records = {record.item: record for record in log}
    fronted = bool(log) and isinstance(log[0], Fronted)
    far = [("far", record.item) for record in log if fronted and record.slot >= len(log)]
    wrong = [("wrong", item) for p, item in enumerate(seen) if item is not None and not records[item].allows(p)]
    few = []
    free = [p for p in range(len(log)) if seen[p] is None]
    slots = [record.slot for record in log if record.item not in seen]
    for p in free[::-1] if fronted else free:
        if fronted and len([i for i in slots if i >= p]) < len([q for q in free if q >= p]):
            few.append(("few", p))
        if not fronted and len([i for i in slots if i <= p]) < len([q for q in free if q <= p]):
            few.append(("few", p))
    return far + wrong + few


def short_cases(kind):
    """Give logs of up to four records with seen lists."""
    for many in range(4):
        own = ["b", "c", "a"][:many]
        for slots in itertools.product(range(many + 1 if many > 2 else 4), repeat=many):
            log = [kind(item, slot) for item, slot in zip(own, slots)]
            yield log, None
            for seen in partial(own, many):
                yield log, list(seen)
    for at, slots in enumerate(list(itertools.product(range(5), repeat=4))[::7]):
        log = [kind(item, slot) for item, slot in zip("dbca", slots)]
        yield log, None
        for seen in list(partial("abcd", 4))[at % 17::17]:
            yield log, list(seen)


class ByTryingTest(unittest.TestCase):
    def test_names_and_places(self):
        for function in [count, conflict, shows_conflict, nth_list, list_number, possible_lists, certain, positions,
                         share]:
            self.assertEqual(function.__module__, "indexlogs.lists")

    def test_all_short_logs(self):
        for kind in KINDS:
            for log, seen in short_cases(kind):
                held = copy.deepcopy((log, seen))
                found = [row for row in lists_by_trying(log) if agrees(row, seen)]
                self.compare_lists(log, seen, found)
                self.compare_conflict(log, seen, found)
                self.compare_places(log, seen, found)
                self.assertEqual((log, seen), held)

    def compare_lists(self, log, seen, found):
        self.assertEqual(count(log, seen=seen), len(found))
        self.assertEqual(list(possible_lists(log, seen=seen)), found)
        for number, row in enumerate(found):
            self.assertEqual(nth_list(log, number, seen=seen), row)
            self.assertEqual(list_number(log, row, seen=seen), number)
        for number in [len(found), len(found) + 1] + FAR_NUMBERS:
            with self.assertRaises(NoNumber):
                nth_list(log, number, seen=seen)
        for row in itertools.permutations(sorted(record.item for record in log)):
            if list(row) not in found:
                with self.assertRaises(NoList):
                    list_number(log, list(row), seen=seen)

    def compare_conflict(self, log, seen, found):
        why = conflict(log, seen=seen)
        self.assertEqual(why is None, len(found) > 0)
        wrong = certificates_by_definition(log, seen)
        self.assertEqual(why, wrong[0] if wrong else None)
        things = [(word, item) for word in ["far", "wrong"] for item in ["a", "b", "c", "d", "e"]]
        things += [("few", place) for place in range(-1, 6)]
        self.assertEqual([thing for thing in things if shows_conflict(log, thing, seen=seen) is True],
                         [thing for thing in things if thing in wrong])
        self.assertEqual([thing for thing in things if shows_conflict(log, thing, seen=seen) is False],
                         [thing for thing in things if thing not in wrong])

    def compare_places(self, log, seen, found):
        calls = [lambda: certain(log, seen=seen)]
        for record in log:
            calls.append(lambda record=record: positions(log, record.item, seen=seen))
            for place in range(len(log)):
                calls.append(lambda record=record, place=place: share(log, record.item, place, seen=seen))
        if not found:
            for call in calls:
                with self.assertRaises(Impossible) as caught:
                    call()
                self.assertEqual(caught.exception.reason, conflict(log, seen=seen))
            return
        columns = [{row[place] for row in found} for place in range(len(log))]
        self.assertEqual(certain(log, seen=seen), [min(each) if len(each) == 1 else None for each in columns])
        for record in log:
            where = [place for place in range(len(log)) if record.item in columns[place]]
            self.assertEqual(positions(log, record.item, seen=seen), where)
            for place in range(len(log)):
                many = len([row for row in found if row[place] == record.item])
                expected = Fraction(many, len(found))
                self.assertEqual(share(log, record.item, place, seen=seen), (expected.numerator, expected.denominator))


class EmptyLogTest(unittest.TestCase):
    def test_one_closed_list(self):
        for seen in [None, []]:
            self.assertEqual(count([], seen=seen), 1)
            self.assertIsNone(conflict([], seen=seen))
            self.assertEqual(list(possible_lists([], seen=seen)), [[]])
            self.assertEqual(nth_list([], 0, seen=seen), [])
            self.assertEqual(list_number([], [], seen=seen), 0)
            self.assertEqual(certain([], seen=seen), [])
            for thing in [None, (), ("few", 0), ("far", "a"), ("wrong", "a"), []]:
                self.assertIs(shows_conflict([], thing, seen=seen), False)
            for number in [1, -1]:
                with self.assertRaises(NoNumber):
                    nth_list([], number, seen=seen)
            with self.assertRaises(NoList):
                list_number([], ["a"], seen=seen)
            with self.assertRaises(NoItem):
                positions([], "a", seen=seen)
            with self.assertRaises(NoItem):
                share([], "a", 0, seen=seen)
        for seen in [[None], ["a"], (), {}, "", 0, False]:
            with self.assertRaises(NoSeen):
                count([], seen=seen)


class CountTest(unittest.TestCase):
    def test_by_hand(self):
        log = [Inserted("a", 0), Inserted("b", 1), Inserted("c", 0)]
        self.assertEqual(count(log), 4)
        self.assertEqual(count(log=log, seen=None), 4)
        self.assertEqual(list(possible_lists(log=log)),
                         [["a", "b", "c"], ["a", "c", "b"], ["c", "a", "b"], ["c", "b", "a"]])
        self.assertEqual(count(log, seen=[None, "b", None]), 2)
        self.assertEqual(count(log, seen=["b", None, None]), 0)
        log = [Fronted("a", 2), Fronted("b", 1), Fronted("c", 2)]
        self.assertEqual(list(possible_lists(log)),
                         [["a", "b", "c"], ["b", "a", "c"], ["b", "c", "a"], ["c", "b", "a"]])
        self.assertEqual(count([Fronted("a", 1)]), 0)
        self.assertEqual(count([Fronted("a", 3), Fronted("b", 1), Fronted("c", 2)]), 0)
        self.assertEqual(count([Removed("a", 1), Removed("b", 1)]), 0)

    def test_formula(self):
        for kind in [Inserted, Removed]:
            for seed in range(20):
                slots = [min(place, (seed + 3) * place // 9) for place in range(40)]
                log = [kind(item, slot) for item, slot in zip(names(40), shuffled(slots, seed))]
                expected = math.prod(len([slot for slot in slots if slot <= k]) - k for k in range(40))
                self.assertEqual(count(log), expected)
                mirrored = [Fronted(record.item, 39 - record.slot) for record in log]
                self.assertEqual(count(mirrored), expected)

    def test_forty_records(self):
        for kind, slot in [(Inserted, 0), (Removed, 0), (Fronted, 39)]:
            log = [kind(item, slot) for item in shuffled(names(40), 2)]
            self.assertEqual(count(log), math.factorial(40))
            self.assertEqual(count(log, seen=[None] * 39 + ["aa"]), math.factorial(39))
            self.assertEqual(count(log, seen=names(20) + [None] * 20), math.factorial(20))
            self.assertEqual(count(log, seen=names(40)), 1)

    def test_moved_record(self):
        log = [Inserted("a", 0), Inserted("b", 0)]
        self.assertEqual(count(log), 2)
        log[1].move_to(1)
        self.assertEqual(count(log), 1)
        self.assertEqual(list(possible_lists(log)), [["a", "b"]])
        self.assertEqual(positions(log, "b"), [1])
        self.assertEqual(share(log, "b", 0), (0, 1))
        self.assertEqual(certain(log), ["a", "b"])
        log[0].move_to(1)
        self.assertEqual(conflict(log), ("few", 0))
        self.assertIs(shows_conflict(log, ("few", 0)), True)
        log[0].move_to(0)
        self.assertEqual(nth_list(log, 0), ["a", "b"])
        self.assertEqual(list_number(log, ["a", "b"]), 0)
        self.assertIsNone(conflict(log))


class ConflictTest(unittest.TestCase):
    def test_first_certificates(self):
        log = [Fronted("c", 4), Fronted("a", 3), Fronted("b", 0), Fronted("d", 9)]
        self.assertEqual(conflict(log), ("far", "c"))
        self.assertEqual(conflict(log, seen=[None, "b", None, None]), ("far", "c"))
        log[0].move_to(0)
        self.assertEqual(conflict(log), ("far", "d"))
        log[3].move_to(1)
        self.assertEqual(conflict(log), ("few", 2))
        self.assertEqual(conflict(log, seen=[None, None, "b", "c"]), ("wrong", "b"))
        self.assertEqual(conflict(log, seen=["b", "d", "c", None]), ("wrong", "c"))
        log = [Inserted("c", 4), Inserted("a", 3), Inserted("b", 0), Inserted("d", 1)]
        self.assertEqual(conflict(log), ("few", 2))
        self.assertEqual(conflict(log, seen=["b", None, None, "c"]), ("wrong", "c"))
        self.assertEqual(conflict(log=log, seen=["d", "a", None, "b"]), ("wrong", "d"))
        self.assertEqual(conflict(log, seen=[None, "b", None, None]), ("few", 0))
        log = [Removed("a", 2), Removed("b", 2), Removed("c", 0)]
        self.assertEqual(conflict(log), ("few", 1))
        self.assertEqual(conflict(log, seen=[None, None, "a"]), ("few", 1))

    def test_far_is_for_fronted_alone(self):
        for kind in [Inserted, Removed]:
            log = [kind("a", 0), kind("b", 5)]
            self.assertEqual(conflict(log), ("few", 1))
            self.assertIs(shows_conflict(log, ("far", "b")), False)
        log = [Fronted("a", 0), Fronted("b", 5)]
        self.assertEqual(conflict(log), ("far", "b"))
        self.assertEqual(conflict(log, seen=["a", "b"]), ("far", "b"))
        self.assertIs(shows_conflict(log, ("far", "b")), True)
        self.assertIs(shows_conflict(log, ("far", "a")), False)

    def test_long_logs(self):
        for kind in KINDS:
            for seed in range(12):
                own = shuffled(names(40), seed)
                log = [kind(item, (k * 11 + seed) % 41) for k, item in enumerate(own)]
                seen = [item if (k + seed) % 3 == 0 else None for k, item in enumerate(shuffled(own, seed + 1))]
                for row in [None, seen]:
                    wrong = certificates_by_definition(log, row)
                    self.assertEqual(conflict(log, seen=row), (wrong + [None])[0])
                    self.assertEqual(count(log, seen=row) > 0, wrong == [])
                    things = [(word, item) for word in ["far", "wrong"] for item in own]
                    for thing in things + [("few", place) for place in range(41)]:
                        self.assertIs(shows_conflict(log, thing, seen=row), thing in wrong)
                        self.assertIs(shows_conflict(log=log, thing=thing, seen=row), thing in wrong)

    def test_any_object(self):
        log = [Fronted("a", 4), Fronted("b", 0), Fronted("c", 0)]
        seen = ["a", None, "b"]
        true = [("far", "a"), ("wrong", "b"), ("few", 1)]
        self.assertEqual(certificates_by_definition(log, seen), true)
        for thing in true:
            self.assertIs(shows_conflict(log, thing, seen=seen), True)
        things = OTHERS + [
            ("few", True), ("few", False), ["few", 1], ("few",), ("few", 1, 1), ("few", "1"), ("few", -1), ("few", 3),
            ("few", 10 ** 59), ("few", None), ("few", [1]), ("few", (1,)), (("few", 1),), {"few": 1}, ("few", 0),
            ("few", 2), (1, "few"), ("Few", 1), ("few", "a"), ("few", {}), ("few", Fronted("a", 1)),
            ["far", "a"], ("far", "b"), ("far", "c"), ("far", "z"), ("far", 0), ("far", True), ("far",), ("a", "far"),
            ("far", ["a"]), (["far"], "a"), ("far", log[0]), (log[0], "a"), ("far", "a", None), ("far", "A"),
            ["wrong", "b"], ("wrong", "a"), ("wrong", "c"), ("wrong", 2), ("wrong", None), ("wrong", "b", 2),
            ("wrong", ("b",)), ("wrong", seen), true, tuple(true), {"wrong": "b"}, ("low", "a"), ("high", "b"),
            nested(("few", 1), 5), "few", 1, "few 1", ("few", 1) * 1000, (True, True), (None, 1), ("", 1), log, seen,
        ]
        for thing in things:
            with self.subTest(thing=thing):
                held = copy.deepcopy(thing)
                self.assertIs(shows_conflict(log, thing, seen=seen), False)
                self.assertEqual(thing, held)

    def test_booleans_are_no_positions(self):
        for kind, slots in [(Inserted, [5, 5]), (Removed, [5, 5])]:
            log = [kind("a", slots[0]), kind("b", slots[1])]
            for thing, expected in [(("few", 0), True), (("few", 1), True), (("few", False), False),
                                    (("few", True), False), (("few", 2), False)]:
                self.assertIs(shows_conflict(log, thing), expected)


class NumberTest(unittest.TestCase):
    def long_cases(self):
        """Give logs of forty records with seen lists; there are many lists of each."""
        for seed in range(4):
            slots = [place * (seed + 2) // 6 for place in range(40)]
            own = shuffled(names(40), seed)
            for kind in KINDS:
                fronted = kind == Fronted
                log = [kind(item, 39 - slot if fronted else slot) for item, slot in zip(own, slots)]
                whole = own[::-1] if fronted else own
                yield log, None
                for step in [2, 3, 7]:
                    yield log, [item if place % step == 0 else None for place, item in enumerate(whole)]
                yield log, list(whole)
                yield log, [None] * 40

    def test_numbers_of_long_logs(self):
        for log, seen in self.long_cases():
            many = count(log, seen=seen)
            self.assertGreater(many, 0)
            before = None
            for number in sorted({k % many for k in [0, 1, 2, many // 3, many // 2, many - 2, many - 1, 10 ** 20]}):
                row = nth_list(log, number, seen=seen)
                self.assertEqual(sorted(row), names(40))
                self.assertIsNone(reason(log, row))
                self.assertTrue(agrees(row, seen))
                self.assertTrue(before is None or before < row)
                before = row
                self.assertEqual(list_number(log, row, seen=seen), number)
                self.assertEqual(nth_list(log=log, number=number, seen=seen), row)
                self.assertEqual(list_number(log=log, items=row, seen=seen), number)
            for number in [many, many + 1] + FAR_NUMBERS:
                with self.assertRaises(NoNumber):
                    nth_list(log, number, seen=seen)

    def test_first_lists_of_long_logs(self):
        for log, seen in self.long_cases():
            run = possible_lists(log, seen=seen)
            for number in range(min(20, count(log, seen=seen))):
                self.assertEqual(next(run), nth_list(log, number, seen=seen))
            run.close()

    def test_share_adds_up(self):
        for log, seen in self.long_cases():
            where = [positions(log, record.item, seen=seen) for record in log[:3]]
            for record, places in zip(log, where):
                shares = [share(log, record.item, place, seen=seen) for place in range(40)]
                self.assertEqual([place for place, (top, _) in enumerate(shares) if top > 0], places)
                self.assertEqual(sum(Fraction(top, bottom) for top, bottom in shares), 1)
                for top, bottom in shares:
                    self.assertEqual(math.gcd(top, bottom), 1)
                    self.assertGreaterEqual(bottom, 1)
                    self.assertEqual(count(log, seen=seen) % bottom, 0)

    def test_booleans_are_no_numbers(self):
        log = [Inserted("a", 0), Inserted("b", 0)]
        for number in [True, False, None, "0", [0]]:
            with self.assertRaises(NoNumber):
                nth_list(log, number)
        for position in [True, False, None, "0", [0]]:
            with self.assertRaises(NoPosition):
                share(log, "a", position)

    def test_no_list(self):
        log = [Inserted("a", 0), Inserted("b", 1), Inserted("c", 0)]
        wrong = [["b", "a", "c"], ["a", "b"], ["a", "b", "c", "d"], ["a", "b", "d"], [], ["a", None, "c"],
                 ["a", "c"], ("a", "b", "c"), ["a", "a", "b"], ["a", "b", True], names(3)]
        for thing in NO_LISTS + wrong:
            for seen in [None, [None, "b", None]]:
                with self.subTest(thing=thing):
                    held = copy.deepcopy(thing)
                    with self.assertRaises(NoList):
                        list_number(log, thing, seen=seen)
                    self.assertEqual(thing, held)
        with self.assertRaises(NoList):
            list_number(log, ["a", "c", "b"], seen=[None, "b", None])
        with self.assertRaises(NoList):
            list_number([Fronted("a", 1)], ["a"])
        with self.assertRaises(NoList):
            list_number([Fronted("a", 2), Fronted("b", 0)], ["b", "a"])


class GeneratorTest(unittest.TestCase):
    def setUp(self):
        self.log = [Inserted("c", 0), Inserted("a", 1), Inserted("b", 0), Inserted("d", 0)]
        self.rows = lists_by_trying(self.log)
        self.assertEqual(len(self.rows), 18)

    def test_stopped_early(self):
        for many in range(len(self.rows)):
            run = possible_lists(self.log)
            self.assertEqual([next(run) for _ in range(many)], self.rows[:many])
            run.close()
        self.assertEqual(list(possible_lists(self.log)), self.rows)
        self.assertEqual(list(possible_lists(self.log)), self.rows)

    def test_two_runs_side_by_side(self):
        first, second = possible_lists(self.log), possible_lists(self.log)
        ahead = [next(first) for _ in range(7)]
        behind = [next(second) for _ in range(3)]
        for row in ahead + behind:
            row.clear()
        self.assertEqual(list(second), self.rows[3:])
        self.assertEqual(list(first), self.rows[7:])

    def test_changed_lists_change_nothing_later(self):
        for spoil in [lambda row: row.clear(), lambda row: row.append("z"), lambda row: row.reverse()]:
            for seen in [None, [None, None, "c", None], [None] * 4]:
                expected = [row for row in self.rows if agrees(row, seen)]
                held = copy.deepcopy(seen)
                found = []
                for row in possible_lists(self.log, seen=seen):
                    found.append(list(row))
                    spoil(row)
                self.assertEqual(found, expected)
                self.assertEqual(seen, held)

    def test_new_lists(self):
        found = list(possible_lists(self.log))
        for one, other in itertools.combinations(found, 2):
            self.assertIsNot(one, other)
        seen = ["c", "a", "b", "d"]
        whole = list(possible_lists(self.log, seen=seen))
        self.assertEqual(whole, [seen])
        self.assertIsNot(whole[0], seen)
        for call in [lambda: nth_list(self.log, 0, seen=seen), lambda: certain(self.log, seen=seen)]:
            found = call()
            self.assertEqual(found, seen)
            self.assertIsNot(found, seen)
            found.clear()
            self.assertEqual(call(), ["c", "a", "b", "d"])
        where = positions(self.log, "a", seen=seen)
        where.clear()
        self.assertEqual(positions(self.log, "a", seen=seen), [1])

    def test_none_at_all(self):
        self.assertEqual(list(possible_lists([Inserted("a", 1)])), [])
        self.assertEqual(list(possible_lists([Fronted("a", 1)])), [])
        self.assertEqual(list(possible_lists(self.log, seen=["a", None, None, None])), [])
        self.assertEqual(list(possible_lists([Fronted(item, 38) for item in names(40)])), [])

    def test_errors(self):
        for thing in NO_LOGS[::3]:
            for seen in [None, [], [None]]:
                with self.subTest(thing=thing), self.assertRaises(NoLog):
                    next(possible_lists(thing, seen=seen))
        for seen in [[], [None], ["a", "a", None, None], (None,) * 4, [None] * 5, ["z", None, None, None]]:
            with self.assertRaises(NoSeen):
                next(possible_lists(self.log, seen=seen))


class PlacesTest(unittest.TestCase):
    def test_by_hand(self):
        log = [Inserted("a", 0), Inserted("b", 1), Inserted("c", 0)]
        self.assertEqual(certain(log), [None, None, None])
        self.assertEqual(certain(log=log, seen=["a", None, None]), ["a", None, None])
        self.assertEqual(certain(log, seen=[None, "a", None]), ["c", "a", "b"])
        self.assertEqual(positions(log=log, item="b"), [1, 2])
        self.assertEqual(positions(log, "a", seen=["c", None, None]), [1, 2])
        self.assertEqual(positions(log, "b", seen=[None, "b", None]), [1])
        self.assertEqual(share(log, "a", 0), (1, 2))
        self.assertEqual(share(log, "a", 1), (1, 4))
        self.assertEqual(share(log, "b", 0), (0, 1))
        self.assertEqual(share(log=log, item="b", position=2), (1, 2))
        self.assertEqual(share(log, "c", 0, seen=["c", None, None]), (1, 1))
        self.assertEqual(share(log, "a", 0, seen=["c", None, None]), (0, 1))
        self.assertIsInstance(share(log, "a", 0), tuple)

    def test_forty_records(self):
        log = [Inserted(item, 0) for item in names(40)]
        self.assertEqual(share(log, "ab", 39), (1, 40))
        self.assertEqual(positions(log, "ab"), list(range(40)))
        self.assertEqual(certain(log), [None] * 40)
        log = [Fronted(item, k) for k, item in enumerate(names(40))]
        self.assertEqual(certain(log), names(40))
        log[0].move_to(1)
        self.assertEqual(certain(log), [None, None] + names(40)[2:])
        log[39].move_to(0)
        with self.assertRaises(Impossible) as caught:
            certain(log)
        self.assertEqual(caught.exception.reason, ("few", 39))

    def test_no_item(self):
        log = [Inserted("a", 0), Inserted("b", 5)]
        for item in ["c", "", "A", "ab", "a ", "a\n", "a" * 4000, "+a@0", "None", "?"]:
            for seen in [None, ["a", None]]:
                with self.assertRaises(NoItem):
                    positions(log, item, seen=seen)
                for position in [0, 1, 2, -1, 10 ** 59]:
                    with self.assertRaises(NoItem):
                        share(log, item, position, seen=seen)
                    with self.assertRaises(NoItem):
                        share(position=position, item=item, log=log, seen=seen)

    def test_no_position(self):
        for log in [[Inserted("a", 0), Inserted("b", 0)], [Inserted("a", 0), Inserted("b", 5)], [Fronted("a", 5)]]:
            for position in [len(log), len(log) + 1, 39, 40, 60] + FAR_NUMBERS:
                with self.assertRaises(NoPosition):
                    share(log, "a", position)
                with self.assertRaises(NoPosition):
                    share(log=log, item="a", position=position, seen=[None] * len(log))

    def test_impossible(self):
        log = [Removed("a", 1), Removed("b", 1)]
        for seen, why in [(None, ("few", 0)), ([None, None], ("few", 0)), (["a", None], ("wrong", "a"))]:
            for call in [lambda: certain(log, seen=seen), lambda: positions(log, "a", seen=seen),
                         lambda: share(log, "b", 1, seen=seen)]:
                with self.assertRaises(Impossible) as caught:
                    call()
                self.assertEqual(caught.exception.reason, why)


# Each function with arguments that are wrong themselves, where it takes any: NoLog and NoSeen come before them.
CALLS = [
    count, conflict, certain,
    lambda log, seen: shows_conflict(log, ("few", 0), seen=seen), lambda log, seen: shows_conflict(log, log, seen=seen),
    lambda log, seen: nth_list(log, 0, seen=seen), lambda log, seen: nth_list(log, -1, seen=seen),
    lambda log, seen: nth_list(log, True, seen=seen), lambda log, seen: list_number(log, None, seen=seen),
    lambda log, seen: list_number(log, [], seen=seen), lambda log, seen: list_number(log, ["a", "b"], seen=seen),
    lambda log, seen: positions(log, "a", seen=seen), lambda log, seen: positions(log, "zz", seen=seen),
    lambda log, seen: share(log, "a", 0, seen=seen), lambda log, seen: share(log, "zz", -1, seen=seen),
    lambda log, seen: share(log, "a", -1, seen=seen), lambda log, seen: list(possible_lists(log, seen=seen)),
]


class WrongArgumentsTest(unittest.TestCase):
    def test_no_log(self):
        for thing in NO_LOGS:
            held = copy.deepcopy(thing)
            for seen in [None, [], ["a"], True]:
                for call in CALLS:
                    with self.subTest(thing=thing), self.assertRaises(NoLog):
                        call(log=thing, seen=seen)
            self.assertEqual(thing, held)

    def test_no_seen(self):
        entries = [thing for thing in OTHERS if thing is not None] + ["c", "A", "", "a ", ["a"], ("a",), 0, 1, "?"]
        things = [thing for thing in OTHERS if thing is not None] + [[thing, None] for thing in entries]
        things += [["b", thing] for thing in entries] + [
            [], [None], ["a"], ["a", "a"], ["b", "b"], [None, None, None], ["a", "b", None], ("a", "b"), (None, None),
            {"a": None, "b": None}, "ab", "a", 0, 2, nested("a", 6), ["a", "b"] * 500, [None] * 2000, [["a", "b"]],
        ]
        for kind in KINDS:
            for log in [[kind("a", 0), kind("b", 0)], [kind("a", 60), kind("b", 60)]]:
                for thing in things:
                    held = copy.deepcopy((log, thing))
                    for call in CALLS:
                        with self.subTest(thing=thing), self.assertRaises(NoSeen):
                            call(log=log, seen=thing)
                    self.assertEqual((log, thing), held)

    def test_seen_by_name_alone(self):
        log = [Inserted("a", 0)]
        for call in [lambda: count(log, [None]), lambda: conflict(log, None), lambda: shows_conflict(log, None, None),
                     lambda: nth_list(log, 0, None), lambda: list_number(log, ["a"], None),
                     lambda: list(possible_lists(log, None)), lambda: certain(log, None),
                     lambda: positions(log, "a", None), lambda: share(log, "a", 0, None)]:
            with self.assertRaises(TypeError):
                call()

    def test_a_record_of_no_kind(self):
        for call in CALLS:
            with self.assertRaises(NoLog):
                call(log=[Record("a", 0)], seen=None)


if __name__ == "__main__":
    unittest.main()
