"""Tests of points 2, 3, 4 and 9: the records of several clients."""

import copy
import itertools
import math
import unittest

from indexlogs.clients import can_merge, disagreement, least_merge, left_over, merge_count
from indexlogs.errors import Impossible, NoClients, NoList, NoNumber, TooMany
from indexlogs.orders import log_of, order_of, reason
from indexlogs.records import Fronted, Inserted, Record, Removed
from indexlogs.replay import replay
from samples import NO_LISTS, NO_LOGS, OTHERS, names, nested, shuffled

MERGES = [can_merge, left_over, least_merge, merge_count]


def clients_of(*rows):
    """Give clients with records of these indices, with items of their own."""
    left = names(40)
    return [[Inserted(left.pop(0), slot) for slot in row] for row in rows]


def runs(clients, length):
    """Give every list of client numbers that cannot be continued, by trying."""
    found, waiting = [], [[]]
    items = ["x" + name for name in names(length)]
    while waiting:
        run = waiting.pop()
        now = replay(items, [clients[number][run[:k].count(number)] for k, number in enumerate(run)])
        longer = []
        for number, client in enumerate(clients):
            behind = client[run.count(number):]
            if behind and behind[0].applies(now):
                longer.append(run + [number])
        waiting.extend(longer)
        if not longer:
            found.append(run)
    return sorted(found)


class ByTryingTest(unittest.TestCase):
    def compare(self, clients, length):
        held = copy.deepcopy(clients)
        found = runs(clients, length)
        total = sum(len(client) for client in clients)
        whole = [run for run in found if len(run) == total]
        # R4: every run that cannot be continued has applied the same records.
        rests = [[[record.item for record in client[run.count(number):]] for number, client in enumerate(clients)]
                 for run in found]
        self.assertEqual(rests, [rests[0]] * len(rests))
        self.assertEqual(left_over(*clients, length=length), rests[0])
        self.assertIs(can_merge(*clients, length=length), whole != [])
        self.assertEqual(merge_count(*clients, length=length), len(whole))
        if whole:
            self.assertEqual(least_merge(*clients, length=length), whole[0])
        else:
            with self.assertRaises(Impossible) as caught:
                least_merge(*clients, length=length)
            self.assertEqual(caught.exception.reason, rests[0])
        self.assertEqual(clients, held)

    def test_one_client(self):
        for many in range(4):
            for slots in itertools.product(range(5), repeat=many):
                for length in range(4):
                    self.compare(clients_of(slots), length)

    def test_two_clients(self):
        for first, second in itertools.product(range(4), range(3)):
            for slots in itertools.product(range(4 if first + second < 5 else 2), repeat=first + second):
                for length in [0, 1, 2]:
                    self.compare(clients_of(slots[:first], slots[first:]), length)

    def test_three_clients(self):
        for sizes in itertools.product(range(3), repeat=3):
            for slots in list(itertools.product(range(5), repeat=sum(sizes)))[::37]:
                first, second, third = sizes
                clients = clients_of(slots[:first], slots[first:first + second], slots[first + second:])
                self.compare(clients, 0)
                self.compare(clients, 2)

    def test_four_and_five_clients(self):
        for slots in itertools.product([0, 2, 4], repeat=5):
            for length in [0, 1, 2]:
                self.compare(clients_of(*[[slot] for slot in slots]), length)
        for slots in itertools.product([1, 3], repeat=4):
            self.compare(clients_of([slots[0], 2], [slots[1]], [], [slots[2], slots[3]]), 1)
            self.compare(clients_of([], [slots[0]], [slots[1], slots[2]], [], [slots[3]]), 1)

    def test_all_lengths(self):
        for length in range(21):
            for low in [length - 1, length, length + 1, length + 2]:
                self.compare(clients_of([max(low, 0), 0], [length + 1, length + 3]), length)

    def test_without_records(self):
        for many in range(1, 6):
            for length in range(21):
                clients = [[] for _ in range(many)]
                self.assertIs(can_merge(*clients, length=length), True)
                self.assertEqual(left_over(*clients, length=length), clients)
                self.assertEqual(least_merge(*clients, length=length), [])
                self.assertEqual(merge_count(*clients, length=length), 1)


class ByHandTest(unittest.TestCase):
    def test_names_and_places(self):
        for function in MERGES + [disagreement]:
            self.assertEqual(function.__module__, "indexlogs.clients")

    def test_two_clients(self):
        first, second = [Inserted("a", 1), Inserted("b", 0)], [Inserted("c", 0), Inserted("d", 3)]
        self.assertIs(can_merge(first, second), True)
        self.assertEqual(left_over(first, second), [[], []])
        self.assertEqual(least_merge(first, second), [1, 0, 0, 1])
        self.assertEqual(merge_count(first, second), 1)
        self.assertEqual(least_merge(first, second, length=1), [0, 0, 1, 1])
        self.assertEqual(merge_count(first, second, length=1), 5)
        self.assertEqual(merge_count(first, second, length=20), 6)

    def test_what_is_left_over(self):
        first, second = [Inserted("a", 0), Inserted("b", 4), Inserted("c", 0)], [Inserted("d", 1), Inserted("e", 3)]
        self.assertIs(can_merge(first, second, length=0), False)
        self.assertEqual(left_over(first, second), [["b", "c"], ["e"]])
        self.assertEqual(merge_count(first, second), 0)
        with self.assertRaises(Impossible) as caught:
            least_merge(first, second)
        self.assertEqual(caught.exception.reason, [["b", "c"], ["e"]])
        self.assertIs(can_merge(first, second, length=1), True)

    def test_length_is_zero_by_default(self):
        clients = clients_of([0, 2], [1])
        for function in MERGES:
            self.assertEqual(function(*clients), function(*clients, length=0))
        self.assertIs(can_merge([Inserted("a", 1)]), False)
        self.assertIs(can_merge([Inserted("a", 1)], length=1), True)
        self.assertIs(can_merge([Inserted("a", 20)], length=20), True)
        self.assertIs(can_merge([Inserted("a", 21)], length=20), False)

    def test_new_lists(self):
        clients = clients_of([9, 0], [8])
        found = left_over(*clients)
        for row in found:
            row.clear()
        self.assertEqual(left_over(*clients), [["aa", "ab"], ["ac"]])
        self.assertIsNot(found[0], found[1])
        empty = left_over([], [], [])
        for one, other in itertools.combinations(empty, 2):
            self.assertIsNot(one, other)
        first = least_merge(*clients, length=10)
        first.clear()
        self.assertEqual(least_merge(*clients, length=10), [0, 0, 1])

    def test_moved_record(self):
        client = [Inserted("a", 0), Inserted("b", 1)]
        self.assertEqual(merge_count(client), 1)
        client[1].move_to(2)
        self.assertEqual(merge_count(client), 0)
        self.assertEqual(left_over(client), [["b"]])
        self.assertIs(can_merge(client), False)
        client[1].move_to(0)
        self.assertEqual(least_merge(client), [0, 0])


class FortyRecordsTest(unittest.TestCase):
    def assert_least(self, clients, length):
        """Check each step of least_merge: no lower client could go on there, and this one can."""
        run = least_merge(*clients, length=length)
        self.assertEqual(len(run), sum(len(client) for client in clients))
        for step, chosen in enumerate(run):
            heads = [client[run[:step].count(number):][:1] for number, client in enumerate(clients)]
            able = [number for number, head in enumerate(heads) if head and head[0].slot <= length + step]
            self.assertEqual(chosen, able[0])

    def test_one_client(self):
        self.assertEqual(least_merge([Inserted(item, k) for k, item in enumerate(names(40))]), [0] * 40)
        self.assertEqual(merge_count([Inserted(item, k + 20) for k, item in enumerate(names(40))], length=20), 1)
        late = [Inserted(item, k + 1 if k == 39 else 0) for k, item in enumerate(names(40))]
        self.assertEqual(left_over(late), [["bn"]])
        self.assertEqual(merge_count(late, length=1), 1)
        self.assertEqual(left_over([Inserted(item, 60) for item in names(40)], length=20), [names(40)])

    def test_five_clients_that_wait_for_each_other(self):
        # Record k can only be applied as the k-th one; client k % 5 has it.
        clients = [[Inserted(names(40)[k], k) for k in range(number, 40, 5)] for number in range(5)]
        self.assertEqual(least_merge(*clients), [0, 1, 2, 3, 4] * 8)
        self.assertEqual(least_merge(*clients[::-1]), [4, 3, 2, 1, 0] * 8)
        for length in range(21):
            self.assert_least(clients, length)
        self.assertIs(can_merge(*clients), True)
        clients[2][4].move_to(25)
        self.assertIs(can_merge(*clients), False)
        self.assertEqual([len(row) for row in left_over(*clients)], [3, 3, 4, 4, 4])
        self.assertEqual(left_over(*clients)[2], ["aw", "bb", "bg", "bl"])

    def test_counts_of_free_merges(self):
        free = [Inserted(item, 0) for item in names(40)]
        for cut in range(41):
            self.assertEqual(merge_count(free[:cut], free[cut:]), math.comb(40, cut))
            self.assertEqual(least_merge(free[:cut], free[cut:]), [0] * cut + [1] * (40 - cut))
        expected = math.factorial(40) // math.factorial(13) ** 2 // math.factorial(14)
        self.assertEqual(merge_count(free[:13], free[13:26], free[26:], length=20), expected)

    def test_counts_of_ballots(self):
        # The second client is never ahead of the first one: the Catalan numbers.
        for many in range(1, 21):
            first = [Inserted(item, 0) for item in names(many)]
            second = [Inserted("x" + item, 2 * k + 1) for k, item in enumerate(names(many))]
            self.assertEqual(merge_count(first, second), math.comb(2 * many, many) // (many + 1))

    def test_too_many(self):
        def free(*sizes):
            return clients_of(*[[0] * size for size in sizes])

        def stuck(*sizes):
            return clients_of(*[[60] * size for size in sizes])

        # 3,000 itself is counted, in each shape.
        for sizes in [(4, 4, 4, 3, 5), (4, 5, 9, 9), (9, 5, 4, 9, 0)]:
            self.assertEqual(math.prod(size + 1 for size in sizes), 3000)
            expected = math.factorial(sum(sizes))
            for size in sizes:
                expected //= math.factorial(size)
            self.assertEqual(merge_count(*free(*sizes)), expected)
            self.assertEqual(merge_count(*stuck(*sizes), length=20), 0)
        for sizes, many in [((2, 6, 10, 12), 3003), ((5, 6, 7, 8), 3024), ((10, 10, 4, 4), 3025), ((8,) * 5, 59049),
                            ((10, 10, 10, 10), 14641), ((12, 10, 6, 2, 0), 3003)]:
            for clients in [free(*sizes), stuck(*sizes)]:
                for length in [0, 20]:
                    with self.assertRaises(TooMany) as caught:
                        merge_count(*clients, length=length)
                    self.assertEqual(caught.exception.many, many)
                self.assertIs(can_merge(*clients), clients[0][0].slot == 0)


class DisagreementTest(unittest.TestCase):
    def expected(self, items, clients):
        """Give the answer as point 9 defines it."""
        log = [record for client in clients for record in client]
        why = reason(log, items)
        if why is not None:
            return why
        order = [record.item for record in order_of(log, items)]
        found = [("order", x.item, y.item) for client in clients for x, y in itertools.combinations(client, 2)
                 if order.index(y.item) < order.index(x.item)]
        return min(found) if found else None

    def test_by_hand(self):
        first, second = [Inserted("a", 0), Inserted("b", 0)], [Inserted("c", 1)]
        self.assertIsNone(disagreement(["b", "c", "a"], first, second))
        self.assertEqual(disagreement(["a", "c", "b"], first, second), ("order", "a", "b"))
        self.assertIsNone(disagreement(["a", "c", "b"], first[::-1], second))
        self.assertEqual(disagreement(["b", "c", "a"], first[::-1], second), ("order", "b", "a"))
        self.assertEqual(disagreement(["c", "b", "a"], first, second), ("low", "c"))
        self.assertEqual(disagreement(["x", "b", "c", "a"], first, second), ("high", "b"))

    def test_least_tuple(self):
        # The only order is d, c, b, a; three clients have pieces of it the wrong way round.
        log = log_of("+", ["a", "b", "c", "d"], ["d", "c", "b", "a"])
        records = {record.item: record for record in log}
        for clients, expected in [
            (["abcd"], ("order", "a", "b")), (["dcba"], None), (["dcab"], ("order", "a", "b")),
            (["cd", "ab"], ("order", "a", "b")), (["dbca"], ("order", "b", "c")), (["bd", "ca"], ("order", "b", "d")),
            (["d", "c", "b", "a"], None), (["cd", "ba"], ("order", "c", "d")), (["bcd", "a"], ("order", "b", "c")),
            (["acdb"], ("order", "a", "b")), (["bcad"], ("order", "a", "d")), (["cadb"], ("order", "a", "b")),
            (["ad", "bc"], ("order", "a", "d")), (["ba", "", "dc"], None), (["", "", "", "", "dcba"], None),
        ]:
            found = disagreement(["a", "b", "c", "d"], *[[records[item] for item in row] for row in clients])
            self.assertEqual(found, expected)

    def test_by_trying_all_merges(self):
        for items in itertools.permutations("abc"):
            for slots in itertools.product(range(3), repeat=3):
                log = [Inserted(item, slot) for item, slot in zip("abc", slots)]
                for order in itertools.permutations(log):
                    for cut in range(4):
                        clients = [list(order[:cut]), list(order[cut:])]
                        self.compare(list(items), clients)

    def compare(self, items, clients):
        good = False
        for run in set(itertools.permutations([0] * len(clients[0]) + [1] * len(clients[1]))):
            try:
                records = [clients[number][run[:k].count(number)] for k, number in enumerate(run)]
                good = good or replay([], records) == items
            except Impossible:
                pass
        found = disagreement(items, *clients)
        self.assertEqual(found is None, good)
        self.assertEqual(found, self.expected(items, clients))

    def test_reasons_come_first(self):
        client = [Inserted("b", 1), Inserted("a", 0), Inserted("c", 5)]
        self.assertEqual(disagreement(["a", "b", "c"], client), ("low", "c"))
        self.assertEqual(disagreement(["b", "a", "c"], client), ("low", "b"))
        client[2].move_to(2)
        self.assertEqual(disagreement(["a", "b", "c"], client), ("order", "b", "a"))
        self.assertIsNone(disagreement(["a", "b", "c"], [client[1], client[2]], [client[0]]))

    def test_forty_records(self):
        for seed in range(8):
            items = shuffled(names(60), seed)
            log = log_of("+", items, shuffled(items, seed + 9)[:40])
            clients = [log[number::5] for number in range(5)]
            self.assertIsNone(disagreement(items, *clients))
            mixed = [shuffled(client, seed) for client in clients]
            found = disagreement(items, *mixed)
            self.assertEqual(found, self.expected(items, mixed))
            self.assertEqual(found[0], "order")
            clients[3][0].move_to(60)
            self.assertEqual(disagreement(items, *clients), ("low", clients[3][0].item))

    def test_empty_clients(self):
        self.assertIsNone(disagreement([], []))
        self.assertIsNone(disagreement(names(60), [], [], [], [], []))
        self.assertIsNone(disagreement(["x"], [], [Inserted("x", 0)], []))

    def test_arguments_stay(self):
        clients = [[Inserted("b", 0), Inserted("a", 0)], [Inserted("c", 1)]]
        for items in [["a", "c", "b"], ["b", "c", "a"], ["c", "x", "a", "b"]]:
            held = copy.deepcopy((items, clients))
            disagreement(items, *clients)
            self.assertEqual((items, clients), held)

    def test_no_list(self):
        for thing in NO_LISTS:
            for clients in [([],), ([Inserted("a", 0)], []), ([Inserted("zz", 0)],)]:
                with self.subTest(thing=thing), self.assertRaises(NoList):
                    disagreement(thing, *clients)
        for items in [[], ["a"], ["b", "c"], ["a", "c", "d"], names(60)]:
            with self.assertRaises(NoList):
                disagreement(items, [Inserted("a", 0)], [Inserted("b", 0)])


class NoClientsTest(unittest.TestCase):
    def assert_no_clients(self, clients):
        held = copy.deepcopy(clients)
        for function in MERGES:
            for length in [0, 20]:
                with self.assertRaises(NoClients):
                    function(*clients, length=length)
            for length in [-1, 21, True, 10 ** 59]:
                with self.assertRaises(NoClients):
                    function(*clients, length=length)
            with self.assertRaises(NoClients):
                function(*clients)
        for items in [[], ["a"], names(60), None, ["a", "a"], True, names(61)]:
            with self.assertRaises(NoClients):
                disagreement(items, *clients)
        self.assertEqual(clients, held)

    def test_number_of_clients(self):
        self.assert_no_clients([])
        with self.assertRaises(NoClients):
            disagreement(items=[])
        for many in range(6, 12):
            self.assert_no_clients([[] for _ in range(many)])
            self.assert_no_clients(clients_of(*[[0] for _ in range(many)]))
        self.assert_no_clients([None] * 6)

    def test_no_log(self):
        for thing in NO_LOGS:
            with self.subTest(thing=thing):
                self.assert_no_clients([thing])
                self.assert_no_clients([[Inserted("x", 0)], thing])
                self.assert_no_clients([thing, []])

    def test_other_kinds(self):
        for thing in [[Removed("a", 0)], [Fronted("a", 0)], [Record("a", 0)], [Removed("a", 0), Removed("b", 0)],
                      [Inserted("a", 0), Removed("b", 0)]]:
            self.assert_no_clients([thing])
            self.assert_no_clients([[Inserted("x", 0)], thing])
            self.assert_no_clients([[], [], [], [], thing])

    def test_forty_and_forty_one_together(self):
        records = [Inserted(item, 0) for item in names(60)]
        for cut in range(42):
            self.assert_no_clients([records[:cut], records[cut:41]])
        for cut in range(41):
            self.assertIs(can_merge(records[:cut], records[cut:40]), True)
            self.assertIsNone(disagreement(names(60)[::-1][20:], records[:cut], records[cut:40]))
        self.assert_no_clients([records[:20], records[20:40], records[40:60]])
        self.assert_no_clients([records[9 * k:9 * k + 9] for k in range(5)])

    def test_an_item_twice(self):
        record = Inserted("a", 0)
        self.assert_no_clients([[record, record]])
        self.assert_no_clients([[record], [record]])
        self.assert_no_clients([[record], [], [Inserted("a", 5)]])
        self.assert_no_clients([[record, Inserted("b", 0), Inserted("a", 1)]])
        client = [Inserted("a", 0), Inserted("b", 0)]
        self.assert_no_clients([client, client])
        first, second = names(20), names(39)[19:]
        self.assert_no_clients([[Inserted(item, 0) for item in first], [Inserted(item, 1) for item in second]])


class NoNumberTest(unittest.TestCase):
    def test_no_length(self):
        integers = [-1, 21, 22, -20, 60, -(10 ** 59), 10 ** 59, 10 ** 60 - 1, -(10 ** 60 - 1), True, False]
        for length in integers + OTHERS + ["1", [1], nested(1, 5)]:
            for clients in [[[]], clients_of([0, 1]), clients_of([60], [0], []), clients_of(*[[0] * 8] * 5)]:
                for function in MERGES:
                    with self.subTest(length=length), self.assertRaises(NoNumber):
                        function(*clients, length=length)

    def test_all_lengths_can_stand(self):
        for length in range(21):
            self.assertIs(can_merge([Inserted("a", 0)], length=length), True)


if __name__ == "__main__":
    unittest.main()
