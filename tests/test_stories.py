"""Tests of points 1 to 14 together: stories that are lost, found again, counted, repaired, tracked and written."""

import copy
import itertools
import math
import unittest
from fractions import Fraction

from indexlogs.clients import can_merge, disagreement, least_merge, left_over, merge_count
from indexlogs.errors import Impossible
from indexlogs.lists import (
    certain, conflict, count, list_number, nth_list, positions, possible_lists, share, shows_conflict)
from indexlogs.orders import index_range, log_of, order_of, reason, shows
from indexlogs.records import Fronted, Inserted, Record, Removed
from indexlogs.repair import least_missing, nearest, usable, wrong_items
from indexlogs.replay import is_log, replay, states
from indexlogs.session import session
from indexlogs.texts import read_items, read_log, read_seen, write_items, write_log, write_seen
from indexlogs.tracker import Tracker
from samples import KINDS, Draw, names, shuffled


class Story:
    """Records that were applied one after another to a first list, each found from the list before it."""

    def __init__(self, kind, others, many, seed):
        draw = Draw(seed)
        own = shuffled(names(60), seed)
        self.kind = kind
        self.first = own[:others] if kind == Inserted else own[:others + many]
        self.others, self.draw = others, draw
        self.order = []
        now = list(self.first)
        touched = own[others:others + many] if kind == Inserted else shuffled(self.first, seed + 1)[:many]
        for item in touched:
            if kind == Inserted:
                at = draw.below(len(now) + 1)
                now.insert(at, item)
            else:
                at = now.index(item)
                now.pop(at)
                if kind == Fronted:
                    now.insert(0, item)
            self.order.append(kind(item, at))
        self.last = now
        self.known = self.last if kind == Inserted else self.first
        self.log = shuffled(self.order, seed + 2)


def stories(kind):
    """Give stories of a kind: short ones, long ones, with and without items that have no record."""
    for seed, (others, many) in enumerate([(0, 1), (1, 1), (0, 4), (3, 4), (0, 6), (20, 7), (0, 20), (5, 20), (0, 40),
                                           (20, 40), (20, 0), (0, 0)]):
        for turn in range(3):
            yield Story(kind, others, many, 10 * seed + turn)


def closed_stories(kind):
    return [story for story in stories(kind) if story.others == 0]


class FoundAgainTest(unittest.TestCase):
    def test_the_order_is_found_again(self):
        for story in [story for kind in KINDS for story in stories(kind)]:
            held = copy.deepcopy(story.log)
            self.assertIs(is_log(story.log), True)
            self.assertIsNone(reason(story.log, story.known))
            self.assertEqual(order_of(story.log, story.known), story.order)
            own = [record.item for record in story.order]
            self.assertEqual(log_of(story.kind.SIGN, story.known, own), story.order)
            self.assertEqual(replay(story.first, order_of(story.log, story.known)), story.last)
            self.assertEqual(wrong_items(story.log, story.known), [])
            self.assertEqual(nearest(story.log, story.known), story.log)
            self.assertEqual(story.log, held)

    def test_forwards_and_backwards(self):
        for story in [story for kind in KINDS for story in stories(kind)]:
            rows = list(states(story.first, story.order))
            self.assertEqual(rows[0], story.first)
            self.assertEqual(rows[-1], story.last)
            for number, record in enumerate(story.order):
                self.assertIs(record.applies(rows[number]), True)
                self.assertEqual(record.applied(rows[number]), rows[number + 1])
                self.assertEqual(record.taken_back(rows[number + 1]), rows[number])

    def test_another_order_cannot_have_happened(self):
        for story in [story for kind in KINDS for story in stories(kind)]:
            for at in range(len(story.order) - 1):
                other = list(story.order)
                other[at], other[at + 1] = other[at + 1], other[at]
                try:
                    last = replay(story.first, other)
                except Impossible:
                    continue
                # Insertions in another order lead to another list, if they can be applied; others cannot be.
                self.assertEqual(story.kind, Inserted)
                self.assertNotEqual(last, story.last)
                self.assertEqual(order_of(story.log, last), other)


class RepairedTest(unittest.TestCase):
    def test_changed_indices(self):
        for story in [story for kind in KINDS for story in stories(kind)]:
            broken = copy.deepcopy(story.log)
            for record in broken[::2]:
                record.move_to(story.draw.below(61))
            wrong = wrong_items(broken, story.known)
            why = reason(broken, story.known)
            self.assertEqual(why is None, wrong == [])
            if why is not None:
                self.assertEqual(why[1], wrong[0])
                self.assertIs(shows(broken, story.known, why), True)
                with self.assertRaises(Impossible) as caught:
                    order_of(broken, story.known)
                self.assertEqual(caught.exception.reason, why)
            fixed = nearest(broken, story.known)
            self.assertIsNone(reason(fixed, story.known))
            self.assertEqual(wrong_items(fixed, story.known), [])
            for one, other in zip(broken, fixed):
                low, high = index_range(broken, story.known, one.item)
                self.assertEqual(one != other, one.item in wrong)
                self.assertEqual(other.slot, max(low, min(high, one.slot)))
            order = order_of(fixed, story.known)
            if story.kind != Inserted:
                replay(story.first, order)
            else:
                self.assertEqual(replay(story.first, order), story.known)

    def test_what_closed_lists_lack(self):
        for story in [story for kind in [Inserted, Removed] for story in stories(kind)]:
            lack, used = least_missing(story.log), usable(story.log)
            self.assertLessEqual(lack, story.others)
            self.assertEqual(lack == 0, conflict(story.log) is None)
            self.assertEqual(used == story.log, lack == 0)
            self.assertGreater(count(used), 0)
            self.assertEqual([record for record in story.log if record in used], used)
            if len(story.log) + lack <= 40:
                grown = story.log + [story.kind("x" + item, 0) for item in names(lack)]
                self.assertGreater(count(grown), 0)
                if lack:
                    self.assertEqual(count(grown[:-1]), 0)

    def test_closed_stories_lack_nothing(self):
        for story in closed_stories(Inserted) + closed_stories(Removed):
            self.assertEqual(least_missing(story.log), 0)
            self.assertEqual(usable(story.log), story.log)


class CountedTest(unittest.TestCase):
    def test_the_known_list_is_one_of_the_closed_lists(self):
        for story in [story for kind in KINDS for story in closed_stories(kind)]:
            log, known = story.log, story.known
            many = count(log)
            number = list_number(log, known)
            self.assertEqual(nth_list(log, number), known)
            self.assertIsNone(conflict(log))
            self.assertLess(number, many)
            for place, item in enumerate(known):
                self.assertIn(place, positions(log, item))
                self.assertGreater(share(log, item, place)[0], 0)
                self.assertEqual(many % share(log, item, place)[1], 0)
            for row in [nth_list(log, k * (many - 1) // 5) for k in range(6)]:
                self.assertIsNone(reason(log, row))
                order = order_of(log, row)
                self.assertEqual(log_of(story.kind.SIGN, row, [record.item for record in order]), order)

    def test_all_closed_lists_of_short_stories(self):
        for story in [story for kind in KINDS for story in closed_stories(kind) if len(story.order) <= 6]:
            rows = list(possible_lists(story.log))
            self.assertEqual(len(rows), count(story.log))
            own = sorted(record.item for record in story.log)
            expected = [list(row) for row in itertools.permutations(own) if reason(story.log, list(row)) is None]
            self.assertEqual(rows, expected)
            for place, item in enumerate(story.known):
                many = len([row for row in rows if row[place] == item])
                top, bottom = share(story.log, item, place)
                self.assertEqual(Fraction(top, bottom), Fraction(many, len(rows)))

    def test_seeing_one_position_after_another(self):
        for story in [story for kind in KINDS for story in closed_stories(kind)]:
            log, known = story.log, story.known
            row = [None] * len(known)
            before = count(log)
            for place in shuffled(range(len(known)), len(known)):
                top, bottom = share(log, known[place], place, seen=row)
                row[place] = known[place]
                self.assertEqual(count(log, seen=row) * bottom, before * top)
                before = count(log, seen=row)
                self.assertGreater(before, 0)
                surely = certain(log, seen=row)
                self.assertTrue(all(entry in (None, item) for entry, item in zip(surely, known)))
                self.assertEqual(surely == known, before == 1)
            self.assertEqual((row, before), (known, 1))

    def test_a_wrong_sighting(self):
        for story in [story for kind in KINDS for story in closed_stories(kind) if story.order]:
            for record in story.log[:5]:
                for place in range(len(story.log)):
                    row = [None] * len(story.log)
                    row[place] = record.item
                    why = conflict(story.log, seen=row)
                    self.assertEqual(why is None, place in positions(story.log, record.item))
                    if why is not None:
                        self.assertIs(shows_conflict(story.log, why, seen=row), True)


class TrackedTest(unittest.TestCase):
    def test_a_tracker_of_each_story(self):
        for story in [story for kind in KINDS for story in closed_stories(kind) if story.order]:
            tracker = Tracker.of(story.log)
            row = [None] * len(story.known)
            self.assertEqual(tracker.log, story.log)
            self.assertEqual(tracker.sign, story.kind.SIGN)
            ways = [tracker.ways]
            for place in shuffled(range(len(row)), 3):
                self.assertEqual(tracker.mark(), len(ways) - 1)
                tracker.see(story.known[place], place)
                row[place] = story.known[place]
                self.assertEqual(tracker.ways, count(tracker.log, seen=row))
                ways.append(tracker.ways)
            self.assertEqual(ways[-1], 1)
            self.assertEqual([item for item, _ in tracker.sightings], story.known)
            self.assertEqual(len(tracker), 2 * len(story.log))
            twin = tracker.twin()
            half = len(story.known) // 2
            twin.undo_to(half)
            self.assertEqual(twin.ways, ways[half])
            for many in ways[-2::-1]:
                tracker.undo()
                self.assertEqual(tracker.ways, many)
            self.assertEqual(tracker.log, story.log)
            self.assertEqual(order_of(tracker.log, story.known), story.order)

    def test_the_records_of_a_tracker_in_any_order(self):
        for story in [story for kind in KINDS for story in closed_stories(kind) if story.order]:
            one, other = Tracker.of(story.log), Tracker.of(story.order)
            self.assertEqual(one.ways, other.ways)
            self.assertEqual(order_of(one.log, story.known), order_of(other.log, story.known))


class WrittenTest(unittest.TestCase):
    def test_texts_of_each_story(self):
        for story in [story for kind in KINDS for story in stories(kind)]:
            log = read_log(write_log(story.log))
            known = read_items(write_items(story.known))
            self.assertEqual((log, known), (story.log, story.known))
            self.assertEqual(write_log(order_of(log, known)), write_log(story.order))
            self.assertEqual([Record.read(word) for word in write_log(log).split(" ") if log], log)
            if story.others == 0:
                row = [item if place % 3 else None for place, item in enumerate(known)]
                again = read_seen(write_seen(row))
                self.assertEqual(count(log, seen=again), count(story.log, seen=row))
                self.assertEqual(read_seen(write_seen(certain(log, seen=row))), certain(log, seen=row))
                number = list_number(log, known)
                self.assertEqual(write_items(nth_list(log, number)), write_items(known))

    def test_a_session_of_each_story(self):
        for story in [story for kind in KINDS for story in closed_stories(kind) if story.order]:
            log, known, sign = story.log, story.known, story.kind.SIGN
            lines = [f"new {sign}"] + [f"add {record.text}" for record in log]
            answers = ["ok"] * len(lines)
            lines += ["ways", "log", f"order {write_items(known)}", "mark"]
            answers += [str(count(log)), write_log(log), write_log(story.order), "0"]
            for place, item in list(enumerate(known))[:30]:
                lines += [f"where {item}", f"see {item} {place}"]
                answers += [" ".join(str(each) for each in positions(log, item)), "ok"]
            row = known[:30] + [None] * len(known[30:])
            lines += ["ways", "back 0", "ways"]
            answers += [str(count(log, seen=row)), "ok", str(count(log))]
            self.assertLessEqual(len(lines), 200)
            self.assertEqual(session("\n".join(lines)), "\n".join(answers))

    def test_wrong_indices_in_a_session(self):
        for story in [story for kind in KINDS for story in closed_stories(kind) if story.order]:
            broken = copy.deepcopy(story.log)
            for record in broken:
                record.move_to(60)
            lines = [f"new {story.kind.SIGN}"] + [f"add {record.text}" for record in broken]
            lines += [f"order {write_items(story.known)}", f"where {story.known[0]}", "ways"]
            answers = session("\n".join(lines)).split("\n")
            self.assertEqual(answers[-3:], ["Impossible", "Impossible", "0"])
            fixed = nearest(broken, story.known)
            lines = [f"new {story.kind.SIGN}"] + [f"add {record.text}" for record in fixed]
            lines += [f"order {write_items(story.known)}"]
            answers = session("\n".join(lines)).split("\n")
            self.assertEqual(answers[-1], write_log(order_of(fixed, story.known)))


class MergedTest(unittest.TestCase):
    def test_the_records_of_several_clients(self):
        for story in stories(Inserted):
            for many in range(1, 6):
                clients = [[] for _ in range(many)]
                for record in story.order:
                    clients[story.draw.below(many)].append(record)
                self.compare(story, clients)

    def compare(self, story, clients):
        self.assertIs(can_merge(*clients, length=story.others), True)
        self.assertEqual(left_over(*clients, length=story.others), [[] for _ in clients])
        self.assertIsNone(disagreement(story.known, *clients))
        waiting = [list(client) for client in clients]
        merged = [waiting[number].pop(0) for number in least_merge(*clients, length=story.others)]
        self.assertEqual(len(merged), len(story.order))
        last = replay(story.first, merged)
        self.assertIsNone(disagreement(last, *clients))
        self.assertEqual(order_of(story.log, last), merged)
        if math.prod(len(client) + 1 for client in clients) <= 3000:
            self.assertGreater(merge_count(*clients, length=story.others), 0)
        for number, client in enumerate(clients):
            if len(client) > 1:
                turned = clients[:number] + [client[::-1]] + clients[number + 1:]
                word, early, late = disagreement(story.known, *turned)
                own = [record.item for record in story.order]
                self.assertEqual(word, "order")
                self.assertGreater(own.index(early), own.index(late))
                self.assertIn(early, [record.item for record in client])

    def test_removals_undo_insertions(self):
        for story in stories(Inserted):
            undone = [Removed(record.item, record.slot) for record in story.order[::-1]]
            self.assertEqual(replay(story.last, undone), story.first)
            self.assertEqual(order_of(shuffled(undone, 5), story.last), undone)
            self.assertEqual(count(undone), count(story.log))
            self.assertEqual(least_missing(undone), least_missing(story.log))
            self.assertEqual(wrong_items(undone, story.last), wrong_items(story.log, story.last))


if __name__ == "__main__":
    unittest.main()
