"""Tests of points 2, 3, 4 and 8: the order of a log's records."""

import copy
import itertools
import unittest

from indexlogs.errors import Impossible, NoItem, NoList, NoLog
from indexlogs.orders import index_range, log_of, order_of, reason, shows
from indexlogs.records import Fronted, Inserted, Removed
from indexlogs.replay import is_log, states
from samples import KINDS, NO_LISTS, NO_LOGS, OTHERS, names, nested, shuffled
from trying import first_list, leads, orders_by_trying

FUNCTIONS = [
    reason, lambda log, items: shows(log, items, ("low", "a")), order_of,
    lambda log, items: index_range(log, items, "a"), lambda log, items: index_range(log, items, "nowhere"),
]


def certificates_by_definition(log, items):
    """Give all true certificates in the order of items, as point 3 defines shift and room."""
    slots = {record.item: record.slot for record in log}
    found = []
    for p, item in enumerate(items):
        if item in slots:
            b = len([other for other in items[:p] if other in slots])
            a = len([other for other in items[p + 1:] if other in slots])
            fronted = isinstance(log[0], Fronted)
            shift = slots[item] - p if fronted else p - slots[item]
            if shift < 0:
                found.append(("low", item))
            if shift > (a if fronted else b):
                found.append(("high", item))
    return found


def short_cases(kind):
    """Give short logs with known lists: all indices, with and without items that have no record."""
    for length in range(5):
        items = ["d", "a", "c", "b"][:length]
        for many in range(length + 1):
            most = length + 1 if many < 4 else 4
            for own in itertools.combinations(items, many):
                for slots in itertools.product(range(most + 1), repeat=many):
                    yield [kind(item, slot) for item, slot in zip(own[::-1], slots)], items


def long_cases(kind):
    """Give long logs with their orders and known lists."""
    for seed in range(12):
        items = shuffled(names(60), seed)[:60 - 3 * seed]
        own = shuffled(items, seed + 50)[:40 - seed]
        yield log_of(kind.SIGN, items, own), items


class ShortLogsTest(unittest.TestCase):
    def test_names_and_places(self):
        for function in [reason, shows, order_of, index_range, log_of]:
            self.assertEqual(function.__module__, "indexlogs.orders")

    def test_all_orders_of_all_short_logs(self):
        for kind in KINDS:
            many = 0
            for log, items in short_cases(kind):
                found = orders_by_trying(log, items)
                wrong = certificates_by_definition(log, items)
                self.assertEqual(len(found), 0 if wrong else 1)
                self.assertEqual(reason(log, items), wrong[0] if wrong else None)
                if wrong:
                    with self.assertRaises(Impossible) as caught:
                        order_of(log, items)
                    self.assertEqual(caught.exception.reason, wrong[0])
                else:
                    self.assertEqual(order_of(log, items), found[0])
                many += len(found)
            # R2: for n of m positions there are n! possible logs.
            expected = {0: 1, 1: 2, 2: 5, 3: 16, 4: 65}
            self.assertEqual(many, sum(expected.values()))

    def test_shows_exactly_the_true_certificates(self):
        things = [(word, item) for word in ["low", "high", "far", "order", ""] for item in ["a", "b", "c", "d", "e"]]
        for kind in KINDS:
            for log, items in list(short_cases(kind))[::3]:
                wrong = certificates_by_definition(log, items)
                self.assertEqual([thing for thing in things if shows(log, items, thing) is True],
                                 [thing for thing in things if thing in wrong])
                self.assertEqual([thing for thing in things if shows(log, items, thing) is False],
                                 [thing for thing in things if thing not in wrong])


class ReasonTest(unittest.TestCase):
    def test_by_hand(self):
        log = [Inserted("a", 0), Inserted("b", 1), Inserted("c", 1)]
        self.assertIsNone(reason(log, ["a", "c", "b"]))
        self.assertEqual(reason(log, ["c", "a", "b"]), ("low", "c"))
        self.assertEqual(reason(log=log, items=["x", "y", "a", "c", "b"]), ("high", "a"))
        self.assertIsNone(reason([Removed("a", 0), Removed("b", 0)], ["a", "b"]))
        self.assertEqual(reason([Removed("b", 0)], ["a", "b"]), ("high", "b"))
        self.assertEqual(reason([Removed("a", 1)], ["a", "b"]), ("low", "a"))
        self.assertIsNone(reason([Fronted("a", 1), Fronted("b", 1)], ["a", "b"]))
        self.assertEqual(reason([Fronted("a", 1)], ["a", "b"]), ("high", "a"))
        self.assertEqual(reason([Fronted("b", 0)], ["a", "b"]), ("low", "b"))

    def test_empty_log(self):
        for items in [[], ["a"], names(60)]:
            self.assertIsNone(reason([], items))
            self.assertEqual(order_of([], items), [])
            self.assertIs(shows([], items, None), False)

    def test_long_logs(self):
        for kind in KINDS:
            for log, items in long_cases(kind):
                self.assertIsNone(reason(log, items))
                self.assertEqual(certificates_by_definition(log, items), [])
                for at in range(0, len(log), 7):
                    for slot in range(0, 61, 6):
                        wrong = copy.deepcopy(log)
                        wrong[at].move_to(slot)
                        expected = (certificates_by_definition(wrong, items) + [None])[0]
                        self.assertEqual(reason(wrong, items), expected)
                        self.assertEqual(reason(wrong[::-1], items), expected)

    def test_several_wrong_items_in_long_logs(self):
        for kind in KINDS:
            items = names(60)
            log = [kind(item, (k * 17) % 61) for k, item in enumerate(shuffled(items, 3)[:40])]
            wrong = certificates_by_definition(log, items)
            self.assertGreater(len(wrong), 5)
            self.assertEqual({word for word, _ in wrong}, {"low", "high"})
            self.assertEqual(reason(log, items), wrong[0])
            for item in items:
                for word in ["low", "high"]:
                    self.assertIs(shows(log, items, (word, item)), (word, item) in wrong)
                    self.assertIs(shows(log=log, items=items, thing=(word, item)), (word, item) in wrong)

    def test_the_order_of_the_log_has_no_meaning(self):
        for kind in KINDS:
            for log, items in long_cases(kind):
                self.assertEqual(order_of(shuffled(log, 8), items), order_of(log, items))

    def test_moved_record(self):
        for kind in KINDS:
            record = kind("b", 1)
            log, items = [record], ["a", "b", "c"]
            self.assertIsNone(reason(log, items))
            self.assertEqual(order_of(log, items), [kind("b", 1)])
            record.move_to(0)
            word = "low" if kind == Fronted else "high"
            self.assertEqual(reason(log, items), (word, "b"))
            self.assertIs(shows(log, items, (word, "b")), True)
            with self.assertRaises(Impossible) as caught:
                order_of(log, items)
            self.assertEqual(caught.exception.reason, (word, "b"))


class ShowsTest(unittest.TestCase):
    def test_not_the_first_one(self):
        log = [Inserted("a", 1), Inserted("b", 0), Inserted("c", 0), Inserted("d", 9)]
        items = ["a", "x", "y", "b", "c", "d"]
        self.assertEqual(certificates_by_definition(log, items),
                         [("low", "a"), ("high", "b"), ("high", "c"), ("low", "d")])
        for thing in certificates_by_definition(log, items):
            self.assertIs(shows(log, items, thing), True)
        for thing in [("high", "a"), ("low", "b"), ("low", "x"), ("high", "x"), ("low", "z"), ("high", "")]:
            self.assertIs(shows(log, items, thing), False)

    def test_any_object(self):
        log, items = [Removed("a", 1), Removed("b", 0)], ["a", "x", "b"]
        self.assertIs(shows(log, items, ("low", "a")), True)
        self.assertIs(shows(log, items, ("high", "b")), True)
        true = [("low", "a"), ("high", "b")]
        things = OTHERS + [
            "low", "a", ["low", "a"], ("low",), ("a",), ("low", "a", "a"), ("low", "a", None), ("low", "a", 0),
            ("a", "low"), ("Low", "a"), ("low ", "a"), ("low", "A"), ("low", "aa"), (("low", "a"),), [("low", "a")],
            true, tuple(true), {"low": "a"}, {"low": "a", "high": "b"}, ("low", ["a"]), (["low"], "a"), ("low", ("a",)),
            ("low", 0), ("low", True), ("low", False), ("low", None), (True, "a"), (0, "a"), (None, None), ((), ()),
            ("low", Removed("a", 1)), ("low", log[0]), ("high", Removed("b", 0)), (log[0], "a"), ("low", {}),
            ("low", {"a": 1}), nested(("low", "a"), 5), ("low",) * 2000, [("low", "a")] * 999, ("+a@1", "low"),
            ("low", "a" * 4000), "low a", log, items, ("few", 0), ("low", items), ("low", "a\n"),
        ]
        for thing in things:
            with self.subTest(thing=thing):
                held = copy.deepcopy(thing)
                self.assertIs(shows(log, items, thing), False)
                self.assertEqual(thing, held)

    def test_nothing_is_shown_where_nothing_is_wrong(self):
        for kind in KINDS:
            log, items = [kind("a", 0)], ["a"]
            for thing in [None, ("low", "a"), ("high", "a"), (), False, True]:
                self.assertIs(shows(log, items, thing), False)


class OrderOfTest(unittest.TestCase):
    def test_by_hand(self):
        log = [Inserted("a", 0), Inserted("b", 0), Inserted("c", 1)]
        self.assertEqual(order_of(log, ["b", "c", "a"]), [Inserted("a", 0), Inserted("b", 0), Inserted("c", 1)])
        found = order_of(log=log, items=["a", "c", "b"])
        self.assertEqual(found, [Inserted("b", 0), Inserted("a", 0), Inserted("c", 1)])
        log = [Removed("a", 0), Removed("b", 0), Removed("c", 2)]
        self.assertEqual(order_of(log, ["a", "b", "c", "d"]), [Removed("c", 2), Removed("a", 0), Removed("b", 0)])
        log = [Fronted("a", 2), Fronted("b", 1), Fronted("c", 2)]
        self.assertEqual(order_of(log, ["a", "b", "c"]), [Fronted("b", 1), Fronted("c", 2), Fronted("a", 2)])

    def test_replay_leads_from_list_to_list(self):
        for kind in KINDS:
            for log, items in long_cases(kind):
                order = order_of(shuffled(log, 4), items)
                self.assertEqual(order, log)
                self.assertTrue(leads(order, items))
                rows = list(states(first_list(order, items), order))
                self.assertEqual(len(rows), len(log) + 1)
                if kind == Inserted:
                    self.assertEqual(rows[-1], items)
                if kind == Removed:
                    own = [record.item for record in log]
                    self.assertEqual(rows[-1], [item for item in items if item not in own])
                if kind == Fronted:
                    own = [record.item for record in order]
                    self.assertEqual(rows[-1], own[::-1] + [item for item in items if item not in own])

    def test_new_records(self):
        for kind in KINDS:
            log = log_of(kind.SIGN, ["a", "b", "c"], ["b", "c", "a"])
            held = copy.deepcopy(log)
            found = order_of(log, ["a", "b", "c"])
            self.assertIsNot(found, log)
            self.assertEqual([record.__class__ for record in found], [kind] * 3)
            for one, other in itertools.product(found, log):
                self.assertIsNot(one, other)
            for record in found:
                record.move_to(60)
            found.clear()
            self.assertEqual(log, held)
            again = order_of(log, ["a", "b", "c"])
            self.assertEqual(again, held)

    def test_arguments_stay(self):
        for kind in KINDS:
            for log, items in long_cases(kind):
                held = copy.deepcopy((log, items))
                reason(log, items), shows(log, items, ("low", items[0])), order_of(log, items)
                index_range(log, items, log[0].item)
                self.assertEqual((log, items), held)


class IndexRangeTest(unittest.TestCase):
    def test_by_hand(self):
        items = ["a", "x", "b", "c", "y"]
        for kind in [Inserted, Removed]:
            log = [kind(item, 60) for item in "cba"]
            self.assertEqual([index_range(log, items, item) for item in "abc"], [(0, 0), (1, 2), (1, 3)])
        log = [Fronted(item, 60) for item in "cba"]
        self.assertEqual([index_range(log, items, item) for item in "abc"], [(0, 2), (2, 3), (3, 3)])
        found = index_range(log=log, items=items, item="a")
        self.assertEqual(found, (0, 2))
        self.assertIsInstance(found, tuple)

    def test_every_item_of_short_logs_by_trying(self):
        for kind in KINDS:
            for length in range(1, 5):
                items = ["d", "a", "c", "b"][:length]
                for many in range(1, min(length, 3) + 1):
                    for own in itertools.combinations(items, many):
                        self.compare_with_orders(kind, own, items)

    def compare_with_orders(self, kind, own, items):
        logs = [[kind(item, slot) for item, slot in zip(own, slots)]
                for slots in itertools.product(range(len(items) + 2), repeat=len(own))]
        happened = [log for log in logs if orders_by_trying(log, items)]
        for at, item in enumerate(own):
            slots = sorted({log[at].slot for log in happened})
            for log in logs[::5]:
                low, high = index_range(log, items, item)
                self.assertEqual(list(range(low, high + 1)), slots)

    def test_long_logs(self):
        for kind in KINDS:
            for log, items in long_cases(kind):
                for at, record in enumerate(log):
                    low, high = index_range(log, items, record.item)
                    for slot in range(61):
                        moved = copy.copy(log)
                        moved[at] = kind(record.item, slot)
                        self.assertEqual(reason(moved, items) is None, low <= slot <= high)

    def test_no_item(self):
        for kind in KINDS:
            log, items = [kind("a", 0), kind("b", 60)], ["x", "a", "b", "y"]
            for item in ["x", "y", "c", "", "A", "ab", "a ", "a\n", "a" * 4000, "a@0", log[0].text, "None"]:
                with self.assertRaises(NoItem):
                    index_range(log, items, item)
                with self.assertRaises(NoItem):
                    index_range(log=log, items=items, item=item)
        with self.assertRaises(NoItem):
            index_range([], ["a"], "a")


class LogOfTest(unittest.TestCase):
    def test_by_hand(self):
        items = ["a", "x", "b", "c"]
        self.assertEqual(log_of("+", items, ["c", "a", "b"]), [Inserted("c", 1), Inserted("a", 0), Inserted("b", 2)])
        self.assertEqual(log_of("-", items, ["c", "a", "b"]), [Removed("c", 3), Removed("a", 0), Removed("b", 1)])
        self.assertEqual(log_of("^", items, ["c", "a", "b"]), [Fronted("c", 3), Fronted("a", 1), Fronted("b", 3)])
        self.assertEqual(log_of(kind="+", items=["a"], names=["a"]), [Inserted("a", 0)])

    def test_all_orders_of_short_lists(self):
        for kind in KINDS:
            for length in range(6):
                items = ["d", "a", "c", "b", "e"][:length]
                for many in range(min(length, 4) + 1):
                    for own in itertools.combinations(items, many):
                        self.compare_with_orders(kind, own, items)

    def compare_with_orders(self, kind, own, items):
        texts = []
        for order in itertools.permutations(own):
            log = log_of(kind.SIGN, items, list(order))
            self.assertEqual([record.item for record in log], list(order))
            self.assertEqual([record.__class__ for record in log], [kind] * len(own))
            self.assertIs(is_log(log), True)
            self.assertEqual(orders_by_trying(log, items), [log])
            self.assertEqual(order_of(log[::-1], items), log)
            texts.append(sorted(record.text for record in log))
        # R2: a log of its own for each order.
        for one, other in itertools.combinations(texts, 2):
            self.assertNotEqual(one, other)

    def test_long_lists(self):
        for kind in KINDS:
            items = names(60)
            for seed in range(10):
                own = shuffled(items, seed)[:40]
                log = log_of(kind.SIGN, items, own)
                self.assertEqual([record.item for record in log], own)
                self.assertTrue(leads(log, items))
                self.assertEqual(order_of(shuffled(log, seed), items), log)

    def test_empty_names(self):
        for sign in ["+", "-", "^"]:
            self.assertEqual(log_of(sign, [], []), [])
            self.assertEqual(log_of(sign, names(60), []), [])

    def test_arguments_stay(self):
        items, own = names(60), shuffled(names(60), 5)[:40]
        held = copy.deepcopy((items, own))
        for sign in ["+", "-", "^"]:
            first, second = log_of(sign, items, own), log_of(sign, items, own)
            for one, other in itertools.product(first, second):
                self.assertIsNot(one, other)
            self.assertEqual((items, own), held)

    def test_no_log_for_kind(self):
        things = OTHERS + ["", "+-", "-^", "+-^", "^-", " +", "+ ", "++", "a", "+a@0", "*", "Inserted", ["+"], ("+",),
                           {"+": 1}, [], 0, Inserted("a", 0), "+\n", nested("+", 6), "+" * 4000]
        for thing in things:
            for items, own in [(["a"], ["a"]), (None, ["a"]), (["a"], None), (True, True)]:
                with self.subTest(thing=thing):
                    with self.assertRaises(NoLog):
                        log_of(thing, items, own)
                    with self.assertRaises(NoLog):
                        log_of(names=own, items=items, kind=thing)

    def test_no_list_for_items(self):
        for sign in ["+", "-", "^"]:
            for thing in NO_LISTS:
                for own in [[], ["a"], None]:
                    with self.subTest(thing=thing), self.assertRaises(NoList):
                        log_of(sign, thing, own)

    def test_no_list_for_names(self):
        missing = [["x"], ["a", "x"], names(40) + ["x"], names(41), names(60), ["zz"]]
        for sign in ["+", "-", "^"]:
            for items in [names(60), ["a", "b"], []]:
                for thing in NO_LISTS + missing:
                    with self.subTest(thing=thing), self.assertRaises(NoList):
                        log_of(sign, items, thing)
            self.assertEqual(len(log_of(sign, names(60), names(40))), 40)
            self.assertEqual(len(log_of(sign, names(60), names(60)[20:])), 40)
            with self.assertRaises(NoList):
                log_of(sign, names(60), names(60)[19:])


class WrongArgumentsTest(unittest.TestCase):
    def test_no_log(self):
        for thing in NO_LOGS:
            held = copy.deepcopy(thing)
            for items in [["a"], [], None, names(61), thing]:
                for function in FUNCTIONS:
                    with self.subTest(thing=thing):
                        with self.assertRaises(NoLog):
                            function(thing, items)
                        with self.assertRaises(NoLog):
                            function(items=items, log=thing)
            self.assertEqual(thing, held)

    def test_no_list(self):
        for thing in NO_LISTS:
            held = copy.deepcopy(thing)
            for log in [[Inserted("a", 0)], [Removed("a", 0), Removed("b", 0)], [Fronted("a", 60)], []]:
                for function in FUNCTIONS:
                    with self.subTest(thing=thing), self.assertRaises(NoList):
                        function(log, thing)
            self.assertEqual(thing, held)

    def test_lists_that_are_no_known_list(self):
        for kind in KINDS:
            log = [kind("a", 0), kind("b", 0)]
            for items in [[], ["a"], ["b"], ["c", "d"], ["a", "c"], ["b", "c", "d"], ["ab"], names(60)]:
                for function in FUNCTIONS:
                    with self.assertRaises(NoList):
                        function(log, items)
            full = [kind(item, 0) for item in names(40)]
            for missing in range(40):
                with self.assertRaises(NoList):
                    reason(full, names(60)[:missing] + names(60)[missing + 1:])


if __name__ == "__main__":
    unittest.main()
