"""Tests of points 2, 3, 6 and 13: the texts of logs, of lists of items and of seen lists."""

import copy
import itertools
import unittest

from indexlogs.errors import NoText
from indexlogs.records import Fronted, Inserted, Removed
from indexlogs.replay import is_log
from indexlogs.texts import read_items, read_log, read_seen, write_items, write_log, write_seen
from samples import KINDS, NO_ITEM_STRINGS, Draw, names, partial, shuffled

READ = [read_log, read_items, read_seen]
WRITE = [write_log, write_items, write_seen]

# Words that can stand in no text; a word is never split by anything but a blank.
NO_WORDS = [
    "", "A", "aB", "a1", "1", "0", "a,b", "a@0", "a@", "@0", "--", "-?", "??", "?a", "a?", "+", "^", "*", "+-", "\n",
    "a\n", "\na", "a\nb", "?\n", "-\n", "\n-", "+a@0\n", "abcdefghi", "+abcdefghi@0", "+a@00", "+a@01", "+a@61",
    "-a@+1", "^a@-1", "+a@1_0", "+A@0", "++a@0", "+-a@0", "+a@0@0", "+a@0,", "+a", "-a", "^a", "+a@", "None", "[]",
    "()", "'a'", "a-b", "{", ".", "_", "+a@" + "1" * 60, "a" * 3000,
]


class TextTest(unittest.TestCase):
    def assert_no_text(self, read, text, at):
        for call in [lambda: read(text), lambda: read(text=text)]:
            with self.subTest(read.__name__, text=text[:60]):
                with self.assertRaises(NoText) as caught:
                    call()
                self.assertEqual(caught.exception.at, at)


class BothWaysTest(TextTest):
    def test_names_and_places(self):
        for function in READ + WRITE:
            self.assertEqual(function.__module__, "indexlogs.texts")

    def test_by_hand(self):
        self.assertEqual(write_log([Inserted("x", 3), Inserted("a", 60)]), "+x@3 +a@60")
        self.assertEqual(write_log(log=[Removed("x", 0)]), "-x@0")
        self.assertEqual(read_log("^x@3 ^a@60"), [Fronted("x", 3), Fronted("a", 60)])
        self.assertEqual(read_log(text="-x@0"), [Removed("x", 0)])
        self.assertEqual(write_items(["b", "abcdefgh", "a"]), "b abcdefgh a")
        self.assertEqual(write_items(items=["b"]), "b")
        self.assertEqual(read_items("b abcdefgh a"), ["b", "abcdefgh", "a"])
        self.assertEqual(read_items(text="b"), ["b"])
        self.assertEqual(write_seen([None, "b", None, "a"]), "? b ? a")
        self.assertEqual(write_seen(seen=[None]), "?")
        self.assertEqual(read_seen("? b ? a"), [None, "b", None, "a"])
        self.assertEqual(read_seen(text="?"), [None])

    def test_the_empty_value(self):
        for read, write in zip(READ, WRITE):
            self.assertEqual(write([]), "-")
            self.assertEqual(read("-"), [])
            self.assertIsInstance(read("-"), list)
            self.assertIsNot(read("-"), read("-"))

    def assert_both_ways(self, read, write, worth):
        held = copy.deepcopy(worth)
        text = write(worth)
        found = read(text)
        self.assertEqual(found, held)
        self.assertIsNot(found, worth)
        self.assertEqual(write(found), text)
        found.append(None)
        self.assertEqual(worth, held)
        return text

    def test_short_values(self):
        for many in range(4):
            for own in itertools.permutations(["a", "b", "zz", "abcdefgh"], many):
                text = self.assert_both_ways(read_items, write_items, list(own))
                self.assertEqual(text, " ".join(own) if own else "-")
                for kind in KINDS:
                    for slots in itertools.product([0, 9, 10, 60], repeat=many):
                        log = [kind(item, slot) for item, slot in zip(own, slots)]
                        text = self.assert_both_ways(read_log, write_log, log)
                        self.assertEqual(text, " ".join(record.text for record in log) if log else "-")
            for row in partial(["a", "b", "abcdefgh"], many):
                text = self.assert_both_ways(read_seen, write_seen, list(row))
                self.assertEqual(text, " ".join(entry or "?" for entry in row) if row else "-")

    def test_the_greatest_values(self):
        long_names = ["abcdef" + name for name in names(60)]
        self.assert_both_ways(read_items, write_items, long_names)
        for kind in KINDS:
            self.assert_both_ways(read_log, write_log, [kind(item, 60) for item in long_names[:40]])
        self.assert_both_ways(read_seen, write_seen, long_names[:40])
        self.assert_both_ways(read_seen, write_seen, [None] * 40)
        self.assert_both_ways(read_seen, write_seen, [None] * 39 + ["a"])

    def test_long_values(self):
        for seed in range(20):
            draw = Draw(seed)
            own = shuffled(names(60), seed)
            self.assert_both_ways(read_items, write_items, own[:3 * seed])
            log = [KINDS[seed % 3](item, draw.below(61)) for item in own[:2 * seed]]
            self.assert_both_ways(read_log, write_log, log)
            row = [item if draw.below(2) else None for item in own[:2 * seed]]
            self.assert_both_ways(read_seen, write_seen, row)

    def test_the_order_is_kept(self):
        self.assertEqual(read_log("+b@1 +a@0"), [Inserted("b", 1), Inserted("a", 0)])
        self.assertNotEqual(write_log([Inserted("b", 1), Inserted("a", 0)]),
                            write_log([Inserted("a", 0), Inserted("b", 1)]))

    def test_moved_records_and_new_ones(self):
        record = Removed("a", 3)
        record.move_to(10)
        self.assertEqual(write_log([record]), "-a@10")
        first, second = read_log("-a@10"), read_log("-a@10")
        first[0].move_to(0)
        self.assertEqual(second, [record])
        for kind in KINDS:
            for found in read_log(write_log([kind("a", 0), kind("b", 0)])):
                self.assertIs(found.__class__, kind)


class NoTextTest(TextTest):
    def test_the_empty_string_and_blanks(self):
        for read, word in [(read_log, "+a@0"), (read_items, "a"), (read_seen, "a"), (read_seen, "?")]:
            for text in ["", " ", "  ", " " + word, "  " + word, " -"]:
                self.assert_no_text(read, text, 0)
            for text in [word + " ", word + "  ", word + "  " + word, word + "  b"]:
                self.assert_no_text(read, text, 1)
        self.assert_no_text(read_log, "+a@0 +b@0 ", 2)
        self.assert_no_text(read_items, "a b  c", 2)
        self.assert_no_text(read_seen, "? ? ? ", 3)

    def test_nothing_stands_behind_the_empty_value(self):
        for read, word in [(read_log, "+a@0"), (read_items, "a"), (read_seen, "a"), (read_seen, "?")]:
            for text in ["- " + word, "- -", "- ", "-  ", "- A", "- " + word + " " + word, "- " * 30]:
                self.assert_no_text(read, text, 1)
            for text in [word + " -", word + " - -", word + " - x"]:
                self.assert_no_text(read, text, 1)

    def test_words_that_can_stand_nowhere(self):
        for read, first in [(read_log, ["+a@0", "+b@60", "+c@3"]), (read_items, ["x", "y", "z"]),
                            (read_seen, ["x", "?", "?"])]:
            for many in range(4):
                for word in NO_WORDS:
                    at = 1 if many == 0 and word == "-" else many
                    self.assert_no_text(read, " ".join(first[:many] + [word]), at)
                    self.assert_no_text(read, " ".join(first[:many] + [word, "w", "A"]), at)

    def test_words_of_the_other_forms(self):
        for text, at in [("?", 0), ("a ?", 1), ("? a", 0), ("+a@0", 0), ("a -b@0", 1)]:
            self.assert_no_text(read_items, text, at)
        for text, at in [("a", 0), ("+a@0 b", 1), ("?", 0), ("+a@0 ?", 1), ("a@0", 0), ("+a@0 b@0", 1)]:
            self.assert_no_text(read_log, text, at)
        for text, at in [("+a@0", 0), ("? +a@0", 1), ("a@0", 0), ("a b@0", 1)]:
            self.assert_no_text(read_seen, text, at)
        for word in NO_ITEM_STRINGS:
            if " " not in word:
                self.assert_no_text(read_items, "b " + word, 1)
                self.assert_no_text(read_log, "+b@0 " + word, 1)
                if word != "?":
                    self.assert_no_text(read_seen, "b ? " + word, 2)

    def test_words_that_were_there(self):
        self.assert_no_text(read_items, "a b a", 2)
        self.assert_no_text(read_items, "a a", 1)
        self.assert_no_text(read_seen, "a ? ? a ?", 3)
        self.assert_no_text(read_seen, "? a a", 2)
        self.assert_no_text(read_log, "+a@0 +a@0", 1)
        self.assert_no_text(read_log, "+a@0 +b@0 +a@1", 2)
        self.assert_no_text(read_log, "^a@0 ^b@0 ^c@0 ^b@60", 3)

    def test_records_of_another_kind(self):
        for one, other in itertools.permutations("+-^", 2):
            self.assert_no_text(read_log, f"{one}a@0 {other}b@0", 1)
            self.assert_no_text(read_log, f"{one}a@0 {other}a@0", 1)
            self.assert_no_text(read_log, f"{one}a@0 {one}b@1 {other}c@2 x", 2)

    def test_too_many_words(self):
        for sign in "+-^":
            words = [f"{sign}{item}@0" for item in names(42)]
            self.assertEqual(len(read_log(" ".join(words[:40]))), 40)
            self.assert_no_text(read_log, " ".join(words[:41]), 40)
            self.assert_no_text(read_log, " ".join(words), 40)
            self.assert_no_text(read_log, " ".join(words[:40]) + " ", 40)
            self.assert_no_text(read_log, " ".join(words[:39] + [words[0]]), 39)
        self.assertEqual(read_items(" ".join(names(60))), names(60))
        self.assert_no_text(read_items, " ".join(names(61)), 60)
        self.assert_no_text(read_items, " ".join(names(400)), 60)
        for rows in [["?"] * 41, names(41), names(40) + ["?"], ["?"] * 40 + ["a"], ["?"] * 2000]:
            self.assert_no_text(read_seen, " ".join(rows), 40)
        self.assert_no_text(read_seen, " ".join(["?"] * 40) + " ", 40)

    def test_long_strings(self):
        for read in READ:
            for text in ["a" * 4000, "+" * 4000, " " * 4000, "\n" * 4000, "+a@0" * 1000]:
                self.assert_no_text(read, text, 0)
            self.assert_no_text(read, "-" + " " * 3999, 1)


class PrefixTest(TextTest):
    """All short strings of some words, against the texts of all values that can be made of them."""

    def compare(self, read, words, texts):
        """Compare with the texts of all values of up to four words."""
        split = {tuple(text.split(" ")): worth for text, worth in texts.items()}
        starts = {row[:k] for row in split for k in range(len(row) + 1)}
        for many in range(1, 4):
            for row in itertools.product(words, repeat=many):
                text = " ".join(row)
                if row in split:
                    self.assertEqual(read(text), split[row])
                else:
                    self.assert_no_text(read, text, min(k for k in range(many) if row[:k + 1] not in starts))

    def test_logs(self):
        records = [Inserted("a", 0), Inserted("a", 1), Inserted("b", 0), Removed("a", 0), Removed("c", 2),
                   Fronted("b", 0)]
        logs = [list(row) for many in range(5) for row in itertools.permutations(records, many) if is_log(list(row))]
        self.compare(read_log, [record.text for record in records] + ["-", "", "a@0", "?", "b"],
                     {write_log(log): log for log in logs})

    def test_items(self):
        rows = [list(row) for many in range(5) for row in itertools.permutations(["a", "b", "c", "d"], many)]
        self.compare(read_items, ["a", "b", "c", "d", "-", "", "?", "A", "+a@0"],
                     {write_items(row): row for row in rows})

    def test_seen_lists(self):
        rows = [list(row) for many in range(5) for row in partial(["a", "b", "c"], many)]
        self.compare(read_seen, ["a", "b", "c", "?", "-", "", "??", "A", "+a@0"],
                     {write_seen(row): row for row in rows})


if __name__ == "__main__":
    unittest.main()
