"""Tests of points 2, 3 and 6: records, their texts and their effects."""

import copy
import itertools
import unittest

from indexlogs.errors import Impossible, NoIndex, NoItem, NoList, NoText
from indexlogs.records import Fronted, Inserted, Record, Removed
from samples import CLASSES, KINDS, NO_INDICES, NO_ITEMS, NO_LISTS, names

SIGNS = {Record: "", Inserted: "+", Removed: "-", Fronted: "^"}


class MakingTest(unittest.TestCase):
    def test_classes(self):
        self.assertEqual(Record.__bases__, (object,))
        for kind in KINDS:
            self.assertEqual(kind.__bases__, (Record,))
        for each in CLASSES:
            self.assertEqual(each.__module__, "indexlogs.records")

    def test_record_defines_what_the_interface_lists(self):
        for name in ["item", "slot", "text"]:
            self.assertIsInstance(vars(Record)[name], property)
        for name in ["move_to", "read", "allows", "applies", "applied", "taken_back"]:
            self.assertIn(name, vars(Record))
        self.assertIsInstance(vars(Record)["read"], classmethod)

    def test_class_values(self):
        for each in CLASSES:
            self.assertEqual(each.MOST, 60)
            self.assertEqual(each.SIGN, SIGNS[each])
            self.assertEqual(each("x", 0).SIGN, SIGNS[each])
            self.assertEqual(each("x", 0).MOST, 60)

    def test_item_slot_and_text(self):
        for each in CLASSES:
            for item, slot in [("x", 3), ("a", 0), ("abcdefgh", 60), ("zz", 59), ("q", 10)]:
                with self.subTest(each.__name__, item=item, slot=slot):
                    for record in [each(item, slot), each(item=item, slot=slot), each(slot=slot, item=item)]:
                        self.assertEqual(record.item, item)
                        self.assertEqual(record.slot, slot)
                        self.assertEqual(record.text, f"{SIGNS[each]}{item}@{slot}")
        self.assertEqual(Record("x", 3).text, "x@3")
        self.assertEqual(Inserted("x", 3).text, "+x@3")
        self.assertEqual(Removed("x", 3).text, "-x@3")
        self.assertEqual(Fronted("x", 3).text, "^x@3")

    def test_every_index_and_every_letter(self):
        for slot in range(61):
            self.assertEqual(Inserted("x", slot).slot, slot)
        for letter in "abcdefghijklmnopqrstuvwxyz":
            for many in range(1, 9):
                self.assertEqual(Record(letter * many, 0).item, letter * many)

    def test_no_item(self):
        for each in CLASSES:
            for thing in NO_ITEMS:
                with self.subTest(each.__name__, thing=thing):
                    with self.assertRaises(NoItem):
                        each(thing, 0)
                    with self.assertRaises(NoItem):
                        each(item=thing, slot=60)

    def test_no_index(self):
        for each in CLASSES:
            for thing in NO_INDICES:
                with self.subTest(each.__name__, thing=thing):
                    with self.assertRaises(NoIndex):
                        each("x", thing)
                    with self.assertRaises(NoIndex):
                        each(item="x", slot=thing)

    def test_no_item_comes_first(self):
        for each in CLASSES:
            for item, slot in itertools.product(NO_ITEMS[::5] + [True], NO_INDICES[::5] + [True]):
                with self.assertRaises(NoItem):
                    each(item, slot)
                with self.assertRaises(NoItem):
                    each(slot=slot, item=item)


class MoveTest(unittest.TestCase):
    def test_index_and_text_change(self):
        for each in CLASSES:
            record = each("x", 3)
            for slot in [60, 0, 10, 10]:
                self.assertIsNone(record.move_to(slot))
                self.assertEqual((record.item, record.slot), ("x", slot))
                self.assertEqual(record.text, f"{SIGNS[each]}x@{slot}")
            self.assertIsNone(record.move_to(slot=7))
            self.assertEqual(record, each("x", 7))

    def test_no_index_changes_nothing(self):
        for each in CLASSES:
            record = each("x", 3)
            for thing in NO_INDICES:
                with self.subTest(each.__name__, thing=thing):
                    with self.assertRaises(NoIndex):
                        record.move_to(thing)
                    with self.assertRaises(NoIndex):
                        record.move_to(slot=thing)
                    self.assertEqual(record.slot, 3)
                    self.assertEqual(record.text, f"{SIGNS[each]}x@3")

    def test_other_records_do_not_move(self):
        first, second = Inserted("x", 3), Inserted("x", 3)
        first.move_to(4)
        self.assertEqual(second.slot, 3)


BODIES = [("x", 3), ("x", 0), ("a", 60), ("abcdefgh", 59), ("zz", 10), ("q", 9)]

# Strings that stand for no record, whatever sign is put before them.
WRONG_BODIES = [
    "", "x", "@", "x@", "@3", "x3", "x@03", "x@00", "x@003", "x@+3", "x@-3", "x@-0", "x@61", "x@99", "x@100",
    "x@600", "x@" + "1" * 60, "x@" + "0" * 60, "x@" + "9" * 3998, "a" * 4000, "abcdefghi@3", "X@3", "xY@3",
    "x1@3", "1@3", "x y@3", " x@3", "x @3", "x@ 3", "x@3 ", "\nx@3", "x@3\n", "x\n@3", "x@\n3", "x@3\n\n", "\n", " ",
    "x@3 y@4", "x@3@", "x@@3", "x@3@4", "@x@3", "x@3x", "x@x", "x@3.0", "x@3,4", "x@1_0", "x@0x3", "x@3+", "x@True",
    "x#3", "x:3", "x-3", "*x@3", "~x@3", "?", "?@3", "x@?", ".", "x@(3)",
]


class ReadTest(unittest.TestCase):
    def assert_no_text(self, each, text):
        for call in [lambda: each.read(text), lambda: each.read(text=text)]:
            with self.assertRaises(NoText) as caught:
                call()
            self.assertEqual(caught.exception.at, 0)

    def test_record_reads_all_four_forms(self):
        for each in CLASSES:
            for item, slot in BODIES:
                for record in [Record.read(each(item, slot).text), Record.read(text=each(item, slot).text)]:
                    self.assertEqual(record.__class__, each)
                    self.assertEqual((record.item, record.slot), (item, slot))

    def test_a_kind_reads_its_own_form_alone(self):
        for kind in KINDS:
            for item, slot in BODIES:
                record = kind.read(kind(item, slot).text)
                self.assertEqual(record.__class__, kind)
                self.assertEqual((record.item, record.slot), (item, slot))
                for other in CLASSES:
                    if other != kind:
                        self.assert_no_text(kind, other(item, slot).text)

    def test_read_off_an_object(self):
        self.assertEqual(Record("a", 0).read("-x@3"), Removed("x", 3))
        self.assertEqual(Inserted("a", 0).read("+x@3"), Inserted("x", 3))
        self.assert_no_text(Inserted("a", 0), "x@3")

    def test_every_index(self):
        for each in CLASSES:
            for slot in range(61):
                self.assertEqual(each.read(f"{each.SIGN}x@{slot}"), each("x", slot))

    def test_other_strings(self):
        for body in WRONG_BODIES:
            for sign in ["", "+", "-", "^"]:
                for each in CLASSES:
                    with self.subTest(each.__name__, text=sign + body):
                        self.assert_no_text(each, sign + body)

    def test_other_signs(self):
        for sign in ["*", "~", " ", "++", "--", "^^", "+-", "-+", "^+", "-^", " +", "+ ", "\n+", "@", "?"]:
            for each in CLASSES:
                with self.subTest(each.__name__, sign=sign):
                    self.assert_no_text(each, sign + "x@3")

    def test_sign_behind(self):
        for text in ["x+@3", "x@3+", "x-@3", "x@3-", "x^@3", "x@3^", "x@^3"]:
            for each in CLASSES:
                self.assert_no_text(each, text)

    def test_two_calls_give_two_objects(self):
        for each in CLASSES:
            text = each("x", 3).text
            first, second, third = Record.read(text), Record.read(text), each.read(text)
            self.assertEqual(first, second)
            self.assertEqual(first, third)
            first.move_to(5)
            second.move_to(6)
            self.assertEqual([first.slot, second.slot, third.slot], [5, 6, 3])


class AllowsTest(unittest.TestCase):
    def assert_allows(self, record, expected):
        low, high = expected
        for position in list(range(-3, 64)) + [-(10 ** 60 - 1), -(10 ** 59), 10 ** 59, 10 ** 60 - 1]:
            with self.subTest(record.text, position=position):
                wanted = position >= low and (high is None or position <= high)
                self.assertIs(record.allows(position), wanted)
                self.assertIs(record.allows(position=position), wanted)

    def test_each_index(self):
        for slot in range(61):
            self.assert_allows(Inserted("x", slot), (slot, None))
            self.assert_allows(Removed("x", slot), (slot, None))
            self.assert_allows(Fronted("x", slot), (0, slot))
            self.assert_allows(Record("x", slot), (0, None))

    def test_after_a_move(self):
        for each in CLASSES:
            record = each("x", 3)
            record.move_to(7)
            low = 7 if each in (Inserted, Removed) else 0
            self.assert_allows(record, (low, 7 if each == Fronted else None))

    def test_by_hand(self):
        self.assertEqual([Inserted("x", 2).allows(k) for k in [-1, 0, 1, 2, 3]], [False] * 3 + [True] * 2)
        self.assertEqual([Removed("x", 2).allows(k) for k in [-1, 0, 1, 2, 3]], [False] * 3 + [True] * 2)
        self.assertEqual([Fronted("x", 2).allows(k) for k in [-1, 0, 1, 2, 3]], [False] + [True] * 3 + [False])
        self.assertEqual([Record("x", 2).allows(k) for k in [-1, 0, 1, 2, 3]], [False] + [True] * 4)


def list_after(record, items):
    """Give the list after a record by point 3, or None if it cannot be applied."""
    after = list(items)
    if isinstance(record, Inserted):
        if record.item in items or record.slot > len(items) or len(items) > 59:
            return None
        after.insert(record.slot, record.item)
        return after
    if record.__class__ == Record or record.slot >= len(items) or items[record.slot] != record.item:
        return None
    after.pop(record.slot)
    if isinstance(record, Fronted):
        after.insert(0, record.item)
    return after


class EffectTest(unittest.TestCase):
    def assert_impossible(self, call, record, items):
        before = list(items)
        for again in [lambda: call(items), lambda: call(items=items)]:
            with self.assertRaises(Impossible) as caught:
                again()
            self.assertEqual(caught.exception.reason, record.item)
        self.assertEqual(items, before)

    def assert_list(self, call, items, expected):
        before = list(items)
        for found in [call(items), call(items=items)]:
            self.assertEqual(found, expected)
            self.assertIsNot(found, items)
            found.append("changed")
        self.assertEqual(items, before)

    def assert_effect(self, record, before, after):
        """Check a record in both directions: before leads to after, or to nothing if after is None."""
        text = record.text
        self.assertIs(record.applies(before), after is not None)
        self.assertIs(record.applies(items=before), after is not None)
        if after is None:
            self.assert_impossible(record.applied, record, before)
        else:
            self.assert_list(record.applied, before, after)
            self.assert_list(record.taken_back, after, before)
        self.assertEqual(record.text, text)

    def test_by_hand(self):
        self.assert_effect(Inserted("x", 1), ["a", "b"], ["a", "x", "b"])
        self.assert_effect(Inserted("x", 2), ["a", "b"], ["a", "b", "x"])
        self.assert_effect(Inserted("x", 3), ["a", "b"], None)
        self.assert_effect(Inserted("a", 0), ["a", "b"], None)
        self.assert_effect(Inserted("x", 0), [], ["x"])
        self.assert_effect(Inserted("x", 1), [], None)
        self.assert_effect(Removed("b", 1), ["a", "b", "c"], ["a", "c"])
        self.assert_effect(Removed("b", 2), ["a", "b", "c"], None)
        self.assert_effect(Removed("x", 0), ["a", "b", "c"], None)
        self.assert_effect(Removed("x", 3), ["a", "b", "c"], None)
        self.assert_effect(Removed("x", 0), ["x"], [])
        self.assert_effect(Removed("x", 0), [], None)
        self.assert_effect(Fronted("c", 2), ["a", "b", "c", "d"], ["c", "a", "b", "d"])
        self.assert_effect(Fronted("a", 0), ["a", "b"], ["a", "b"])
        self.assert_effect(Fronted("a", 1), ["a", "b"], None)
        self.assert_effect(Fronted("x", 0), [], None)
        self.assert_effect(Record("a", 0), ["a", "b"], None)
        self.assert_effect(Record("x", 0), [], None)

    def test_taken_back_by_hand(self):
        self.assert_impossible(Inserted("x", 1).taken_back, Inserted("x", 1), ["x", "a"])
        self.assert_impossible(Inserted("x", 2).taken_back, Inserted("x", 2), ["a", "b"])
        self.assert_impossible(Removed("x", 0).taken_back, Removed("x", 0), ["a", "x"])
        self.assert_impossible(Removed("x", 3).taken_back, Removed("x", 3), ["a", "b"])
        self.assert_list(Removed("x", 2).taken_back, ["a", "b"], ["a", "b", "x"])
        self.assert_impossible(Fronted("x", 1).taken_back, Fronted("x", 1), ["a", "x"])
        self.assert_impossible(Fronted("x", 2).taken_back, Fronted("x", 2), ["x", "a"])
        self.assert_list(Fronted("x", 1).taken_back, ["x", "a"], ["a", "x"])
        self.assert_impossible(Fronted("x", 0).taken_back, Fronted("x", 0), [])
        self.assert_impossible(Record("x", 0).taken_back, Record("x", 0), ["x"])

    def test_all_short_lists(self):
        lists = [list(row) for many in range(5) for row in itertools.permutations("abcd", many)]
        for each, item, slot in itertools.product(CLASSES, "abcde", range(6)):
            record = each(item, slot)
            befores = {}
            for before in lists:
                after = list_after(record, before)
                self.assert_effect(record, before, after)
                if after is not None:
                    befores[tuple(after)] = before
            # With the item e the list before a removal lies outside the short lists.
            if each == Removed and item == "e":
                continue
            for after in lists:
                if tuple(after) not in befores:
                    self.assert_impossible(record.taken_back, record, after)

    def test_every_length(self):
        for many in range(61):
            items = names(many)
            for slot in [0, 1, many // 2, many - 1, many, many + 1, 60]:
                if not 0 <= slot <= 60:
                    continue
                found = items[slot] if slot < many else "x"
                for each, item in itertools.product(CLASSES, ["x", found, "aa"]):
                    record = each(item, slot)
                    self.assert_effect(record, items, list_after(record, items))

    def test_full_lists(self):
        full, one_less = names(60), names(59)
        for slot in [0, 30, 59, 60]:
            self.assert_effect(Inserted("x", slot), full, None)
            self.assert_impossible(Removed("x", slot).taken_back, Removed("x", slot), full)
        self.assert_effect(Inserted("x", 59), one_less, one_less + ["x"])
        self.assert_effect(Inserted("x", 0), one_less, ["x"] + one_less)
        self.assert_effect(Inserted("x", 60), one_less, None)
        self.assert_effect(Removed(full[59], 59), full, one_less)
        self.assert_effect(Removed("x", 59), one_less, None)
        self.assert_list(Removed("x", 59).taken_back, one_less, one_less + ["x"])
        self.assert_impossible(Removed("x", 60).taken_back, Removed("x", 60), one_less)
        self.assert_effect(Fronted(full[59], 59), full, [full[59]] + one_less)
        self.assert_effect(Fronted(full[0], 60), full, None)
        self.assert_impossible(Fronted(full[0], 60).taken_back, Fronted(full[0], 60), full)

    def test_after_a_move(self):
        for each, before, after in [
            (Inserted, ["a", "b"], ["a", "x", "b"]),
            (Removed, ["a", "x", "b"], ["a", "b"]),
            (Fronted, ["a", "x", "b"], ["x", "a", "b"]),
        ]:
            record = each("x", 9)
            self.assert_effect(record, before, None)
            record.move_to(1)
            self.assert_effect(record, before, after)

    def test_no_list(self):
        for each in CLASSES:
            for thing in NO_LISTS:
                record = each("a", 0)
                held = copy.deepcopy(thing)
                for call in [record.applies, record.applied, record.taken_back]:
                    with self.subTest(each.__name__, call=call.__name__, thing=thing):
                        with self.assertRaises(NoList):
                            call(thing)
                        with self.assertRaises(NoList):
                            call(items=thing)
                self.assertEqual(thing, held)
                self.assertEqual(record, each("a", 0))


class EqualityTest(unittest.TestCase):
    def test_records(self):
        everything = [(each, item, slot) for each in CLASSES for item in ["a", "b", "ab"] for slot in [0, 1, 10, 60]]
        for one, other in itertools.product(everything, everything):
            first, second = one[0](one[1], one[2]), other[0](other[1], other[2])
            self.assertIs(first == second, one == other)
            self.assertIs(first != second, one != other)

    def test_after_a_move(self):
        for each in CLASSES:
            first, second = each("x", 3), each("x", 4)
            first.move_to(4)
            self.assertTrue(first == second)
            self.assertFalse(first != second)
            second.move_to(5)
            self.assertFalse(first == second)
            self.assertTrue(first != second)

    def test_other_objects(self):
        for each in CLASSES:
            record = each("x", 3)
            for thing in [record.text, "x", "x@3", 3, 0, None, True, False, [record], (record,), {"x": record},
                          ("x", 3), ["x", 3], {"item": "x", "slot": 3}, [], {}, each]:
                self.assertIs(record == thing, False)
                self.assertIs(thing == record, False)
                self.assertIs(record != thing, True)
                self.assertIs(thing != record, True)

    def test_in_lists(self):
        self.assertIn(Inserted("x", 3), [Removed("x", 3), Inserted("x", 3)])
        self.assertNotIn(Record("x", 3), [Removed("x", 3), Inserted("x", 3), "x@3"])
        self.assertEqual([Inserted("x", 3)], [Inserted("x", 3)])
