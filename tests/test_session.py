"""Tests of points 2, 6, 8, 10, 12, 13 and 14: sessions."""

import itertools
import math
import unittest

from indexlogs.errors import LogError
from indexlogs.lists import positions
from indexlogs.orders import order_of
from indexlogs.records import Record
from indexlogs.session import session
from indexlogs.texts import write_log
from indexlogs.tracker import Tracker
from samples import Draw, names, shuffled

# Words that are no number of one to nine digits without leading zeros.
NO_NUMBERS = [
    "+0", "-0", "+1", "-1", "00", "01", "007", "000000000", "1_0", "1000000000", "1234567890", "0000000001", "9" * 60,
    "1.0", "1e3", "0x1", "a", "A", "?", "-", "+", "1a", "a1", "1,0", "(1)", "True", "None", "_1", "1_",
    "\u00b2", "\u0663",
]

NO_FORMS = [
    "new", "new + +", "new + -", "add", "add +a@0 +b@0", "add +b@0 x", "see", "see b", "see 0", "see b 0 0",
    "see b 0 c", "ways 0", "ways x", "log x", "log 0", "log -", "undo 0", "undo undo", "mark 0", "mark x", "back",
    "back 0 0", "back 0 x", "order", "where", "where a b", "where a 0", "", "x", "0", "?", "-", "ok", "+a@0", "a",
    "New +", "ADD +b@0", "Ways", "ways.", "ways\t", "turn -", "twin", "len", "sign", "undo_to 0", "sightings", "of",
    "news +", "adds +b@0", "lo g", "session", "positions a", "order_of a", "nothing", "NoLog", "__init__", "new+",
    "see=b 0", "log;", "'log'", "wayss", "way",
]

# The lines that stand between the words of a valid line an empty word, which makes each of them answer "?".
WITH_WORDS = ["new +", "add +b@0", "see b 0", "ways", "log", "undo", "mark", "back 0", "order a", "where a"]


class SessionTest(unittest.TestCase):
    def assert_answers(self, pairs):
        """Run the lines as one session, and compare each answer."""
        pairs = list(pairs)
        answers = session("\n".join(line for line, _ in pairs))
        self.assertIsInstance(answers, str)
        self.assertEqual(list(zip([line for line, _ in pairs], answers.split("\n"))), pairs)

    def assert_behind(self, before, pairs):
        """Compare the answers that follow some lines."""
        answers = session("\n".join(before + [line for line, _ in pairs])).split("\n")
        self.assertEqual(list(zip([line for line, _ in pairs], answers[len(before):])), pairs)


class LinesTest(SessionTest):
    def test_names_and_places(self):
        self.assertEqual(session.__module__, "indexlogs.session")
        self.assertEqual(session(rows="new +\nways"), "ok\n1")

    def test_one_answer_for_each_line(self):
        self.assertEqual(session(""), "?")
        self.assertEqual(session("\n"), "?\n?")
        self.assertEqual(session("\n\n\n"), "?\n?\n?\n?")
        self.assertEqual(session("new +"), "ok")
        self.assertEqual(session("new +\n"), "ok\n?")
        self.assertEqual(session("\nnew +"), "?\nok")
        self.assertEqual(session("new +\n\nways"), "ok\n?\n1")
        self.assertEqual(session("x\n" * 199 + "new +"), "?\n" * 199 + "ok")
        self.assertEqual(session("new +\n" + "mark\n" * 198 + "mark"), "ok\n" + "\n".join(map(str, range(199))))

    def test_a_story(self):
        self.assert_answers([
            ("ways", "?"), ("new x", "NoLog"), ("log", "?"), ("new +", "ok"), ("ways", "1"), ("log", "-"),
            ("add +a@0", "ok"), ("add +b@1", "ok"), ("mark", "0"), ("add +c@0", "ok"), ("log", "+a@0 +b@1 +c@0"),
            ("ways", "4"), ("where b", "1 2"), ("where a", "0 1 2"), ("see b 1", "ok"), ("ways", "2"),
            ("where b", "1 2"), ("mark", "1"), ("see b 2", "NoPosition"), ("see c 0", "ok"), ("ways", "1"),
            ("order a c b", "+c@0 +b@1 +a@0"), ("order b a c", "Impossible"), ("order c a b", "+a@0 +b@1 +c@0"),
            ("order a b c", "+c@0 +a@0 +b@1"), ("undo", "ok"), ("ways", "2"), ("back 1", "ok"), ("back 0", "ok"),
            ("ways", "1"), ("log", "+a@0 +b@1"), ("back 1", "NoNumber"), ("order a b", "+a@0 +b@1"),
            ("order x a b", "Impossible"), ("order a", "NoList"), ("undo", "ok"), ("undo", "ok"), ("undo", "Nothing"),
            ("mark", "0"), ("log", "-"),
        ])

    def test_new(self):
        for sign in "+-^":
            self.assert_answers([(f"new {sign}", "ok"), (f"add {sign}a@0", "ok"), ("log", f"{sign}a@0")])
        for word in ["x", "++", "+-", "*", "?", "ok", "+a@0", "0", "new", "Inserted", "--", "+\t"]:
            self.assert_answers([(f"new {word}", "NoLog"), ("ways", "?"), ("new +", "ok"), ("add +a@0", "ok"),
                                 (f"new {word}", "NoLog"), ("log", "+a@0")])

    def test_a_new_line_in_between(self):
        self.assert_answers([
            ("new +", "ok"), ("add +a@0", "ok"), ("see a 0", "ok"), ("mark", "0"), ("mark", "1"), ("new +", "ok"),
            ("log", "-"), ("ways", "1"), ("back 0", "NoNumber"), ("undo", "Nothing"), ("see b 0", "ok"),
            ("see a 1", "ok"), ("mark", "0"), ("new ^", "ok"), ("add +a@0", "NoLog"), ("add ^a@0", "ok"),
            ("new -", "ok"), ("add -a@0", "ok"), ("log", "-a@0"), ("new", "?"), ("new  +", "?"), ("new x", "NoLog"),
            ("log", "-a@0"), ("ways", "1"),
        ])

    def test_before_the_first_tracker(self):
        valid = ["add +a@0", "see a 0", "ways", "log", "undo", "mark", "back 0", "order a", "where a"]
        wrong = ["add x", "see A 0", "see a 99", "back 7", "order A", "where A", "", " ", "x"]
        wrong += ["new", "new + +", "new  +"]
        self.assert_answers([(line, "?") for line in valid + wrong])
        self.assert_answers([(line, "?") for line in valid] + [("new *", "NoLog")] + [(line, "?") for line in valid]
                            + [("new -", "ok"), ("log", "-"), ("mark", "0")])

    def test_other_lines(self):
        before = ["new +", "add +a@0", "see a 0", "mark"]
        for line in NO_FORMS:
            self.assert_behind(before, [(line, "?"), ("log", "+a@0"), ("ways", "1"), ("mark", "1"), ("undo", "ok"),
                                        ("undo", "ok"), ("undo", "Nothing")])

    def test_empty_words(self):
        before = ["new +", "add +a@0", "see a 0", "mark"]
        for line in WITH_WORDS:
            words = line.split(" ")
            wrong = [" ".join(words[:k] + [""] + words[k:]) for k in range(len(words) + 1)]
            wrong += [f"  {line}", f"{line}  ", f" {line} "]
            for each in wrong:
                self.assert_behind(before, [(each, "?"), ("log", "+a@0"), ("ways", "1"), ("mark", "1"), ("undo", "ok")])
                self.assert_answers([(each, "?"), ("ways", "?")])
        for line in [" ", "  ", " " * 3000]:
            self.assert_behind(before, [(line, "?")])

    def test_numbers(self):
        before = ["new +", "mark", "mark", "add +a@0"]
        for word in NO_NUMBERS:
            self.assert_behind(before, [(f"see a {word}", "?"), (f"see A {word}", "?"), (f"back {word}", "?"),
                                        ("log", "+a@0"), ("mark", "2"), ("undo", "ok"), ("undo", "Nothing")])
        for word in ["40", "60", "99", "100", "999999999", "123456789"]:
            self.assert_behind(before, [(f"see a {word}", "NoPosition"), (f"see A {word}", "NoItem"),
                                        (f"back {word}", "NoNumber"), ("log", "+a@0"), ("mark", "2"), ("undo", "ok")])
        for word in ["0", "1", "9", "10", "39"]:
            self.assert_behind(before, [(f"see a {word}", "ok"), ("ways", "1" if word == "0" else "0")])
        self.assert_behind(before, [("back 2", "NoNumber"), ("back 1", "ok"), ("log", "-"), ("back 0", "ok"),
                                    ("back 1", "NoNumber")])

    def test_see_needs_a_number_for_any_item(self):
        self.assert_behind(["new +"], [("see 0 a", "?"), ("see A a", "?"), ("see 0 0", "NoItem"), ("see ab 0", "ok"),
                                       ("see abcdefghi 1", "NoItem"), ("see ? 1", "NoItem"), ("see +a@0 1", "NoItem")])


class AddTest(SessionTest):
    def test_no_text(self):
        for text in ["x", "a@", "@0", "+a", "+a@", "+@0", "+a@61", "+a@00", "+a@01", "+a@+1", "+a@-1", "++a@0", "A@0",
                     "+A@0", "+abcdefghi@0", "?", "-", "+", "*a@0", "+a@0@0", "+a@1_0", "0", "+a@" + "1" * 60]:
            for sign in "+-^":
                self.assert_behind([f"new {sign}", "mark"], [(f"add {text}", "NoText"), ("log", "-"), ("mark", "1"),
                                                             ("undo", "Nothing")])

    def test_no_log(self):
        for sign, other in itertools.product("+-^", ["+", "-", "^", ""]):
            self.assert_behind([f"new {sign}", f"add {sign}a@0"], [
                (f"add {other}b@60", "ok" if other == sign else "NoLog"), (f"add {other}a@0", "NoLog"),
                (f"add {other}a@1", "NoLog"), ("log", f"{sign}a@0 {sign}b@60" if other == sign else f"{sign}a@0")])

    def test_forty_records(self):
        before = ["new -"] + [f"add -{item}@0" for item in names(40)]
        self.assert_behind(before, [
            ("ways", str(math.factorial(40))), ("log", " ".join(f"-{item}@0" for item in names(40))),
            ("add -x@0", "NoLog"), ("where ab", " ".join(str(place) for place in range(40))),
            ("order " + " ".join(names(40)), " ".join(f"-{item}@0" for item in names(40))),
            ("order " + " ".join(names(60)), " ".join(f"-{item}@0" for item in names(40))),
            ("order " + " ".join(names(61)), "NoList"), ("order " + " ".join(names(39)), "NoList"),
        ])


class OrderAndWhereTest(SessionTest):
    def test_order(self):
        before = ["new ^", "add ^a@2", "add ^b@1", "add ^c@2"]
        self.assert_behind(before, [
            ("order a b c", "^b@1 ^c@2 ^a@2"), ("order a b c d", "^b@1 ^c@2 ^a@2"),
            ("order c b a", "^b@1 ^a@2 ^c@2"),
            ("order a c b", "Impossible"), ("order x a b c", "Impossible"), ("order a b", "NoList"),
            ("order a a b c", "NoList"),
            ("order a b c A", "NoList"), ("order a b c 0", "NoList"), ("order ?", "NoList"),
            ("order - a b c", "NoList"),
            ("order", "?"), ("order a  b c", "?"), ("log", "^a@2 ^b@1 ^c@2"),
        ])

    def test_order_of_the_empty_log(self):
        for sign in "+-^":
            self.assert_behind([f"new {sign}"], [("order a", "-"), ("order b a", "-"), ("order a a", "NoList"),
                                                 ("order A", "NoList"), ("order 0", "NoList"), ("order", "?")])

    def test_where(self):
        before = ["new +", "add +a@0", "add +b@1", "add +c@0", "see a 0", "see z 30"]
        self.assert_behind(before, [
            ("where a", "0 1 2"), ("where b", "1 2"), ("where c", "0 1 2"), ("ways", "0"), ("where z", "NoItem"),
            ("where A", "NoItem"), ("where 0", "NoItem"), ("where ?", "NoItem"), ("where +a@0", "NoItem"),
            ("add +d@9", "ok"), ("where a", "Impossible"), ("where d", "Impossible"), ("where z", "NoItem"),
            ("undo", "ok"), ("where b", "1 2"),
        ])
        self.assert_behind(["new ^"], [("where a", "NoItem"), ("add ^a@0", "ok"), ("where a", "0")])

    def test_an_error_changes_nothing(self):
        wrong = ["new x", "add x", "add -b@0", "add b@0", "add +a@5", "see A 0", "see a 40", "see a 1", "see b 0",
                 "back 1", "back 999999999", "order b", "order c a", "where b", "where A", "x", ""]
        answers = ["NoLog", "NoText", "NoLog", "NoLog", "NoLog", "NoItem", "NoPosition", "NoPosition", "NoPosition",
                   "NoNumber", "NoNumber", "NoList", "Impossible", "NoItem", "NoItem", "?", "?"]
        for line, answer in zip(wrong, answers):
            self.assert_behind(["new +", "mark", "add +a@0", "see a 0"], [
                (line, answer), ("log", "+a@0"), ("ways", "1"), ("see a 0", "ok"), ("undo", "ok"), ("mark", "1"),
                ("undo", "ok"), ("ways", "1"), ("see a 1", "ok"), ("mark", "1"), ("back 0", "ok"), ("log", "-")])
        self.assert_behind(["new +", "mark"], [("undo", "Nothing"), ("log", "-"), ("mark", "1")])


class DrawnTest(SessionTest):
    """Long sessions, against the calls that their lines stand for."""

    def drawn(self, draw, sign):
        item, number = draw.pick(["a", "b", "c", "d", "A"]), draw.below(5)
        word = draw.pick(["add"] * 6 + ["see"] * 4 + ["ways", "log", "undo", "mark", "back", "order", "where"])
        if word == "add":
            return f"add {draw.pick([sign, sign, sign, '+', ''])}{item}@{number // 2}"
        if word == "see":
            return f"see {item} {draw.pick([number, number, 40])}"
        if word == "back":
            return f"back {number}"
        if word == "order":
            return "order " + " ".join(shuffled(["a", "b", "c", "d", "x"], draw.below(999))[:draw.below(5) + 1])
        if word == "where":
            return f"where {item}"
        return word

    def answer(self, tracker, line):
        word, *rest = line.split(" ")
        calls = {
            "add": lambda: tracker.add(Record.read(rest[0])), "see": lambda: tracker.see(rest[0], int(rest[1])),
            "ways": lambda: tracker.ways, "log": lambda: write_log(tracker.log), "undo": tracker.undo,
            "mark": tracker.mark, "back": lambda: tracker.undo_to(int(rest[0])),
            "order": lambda: write_log(order_of(tracker.log, rest)),
            "where": lambda: " ".join(str(place) for place in positions(tracker.log, rest[0])),
        }
        try:
            found = calls[word]()
        except LogError as error:
            return error.__class__.__name__
        return "ok" if found is None else str(found)

    def test_long_sessions(self):
        answered = set()
        for seed in range(60):
            draw, sign = Draw(seed), "+-^"[seed % 3]
            tracker = Tracker(sign)
            pairs = [(f"new {sign}", "ok")]
            for _ in range(199):
                line = self.drawn(draw, sign)
                pairs.append((line, self.answer(tracker, line)))
            self.assert_answers(pairs)
            answered.update((line.split(" ")[0], answer) for line, answer in pairs)
        met = {
            "add": ["ok", "NoLog", "NoText"], "see": ["ok", "NoItem", "NoPosition"], "undo": ["ok"],
            "back": ["ok", "NoNumber"], "order": ["NoList", "Impossible"], "where": ["NoItem", "Impossible"],
            "ways": ["0", "1"], "mark": ["0", "1"], "log": ["-"],
        }
        for pair in [(word, answer) for word, answers in met.items() for answer in answers]:
            self.assertIn(pair, answered)

    def test_sessions_do_not_meet(self):
        rows = "new +\nadd +a@0\nmark\nlog"
        for _ in range(3):
            self.assertEqual(session(rows), "ok\nok\n0\n+a@0")
            self.assertEqual(session("log"), "?")


if __name__ == "__main__":
    unittest.main()
