"""Point 40: deeds and their lines."""

import unittest
from itertools import product

from quorumdrift.deeds import deed_line, parse_deeds
from quorumdrift.errors import InvalidLine
from quorumdrift.states import State
from tests.helpers import DriftCase
from tests.oracles import CIRCLE, EMPTY, FOURS, SINGLE, TWELVES

NUMBERS = (0, 1, 2, 9, 10, 12, 99, 100, 5000, 9998, 9999)
STATE_TEXTS = [str(state) for state in [EMPTY, SINGLE, CIRCLE] + FOURS[:5] + TWELVES]
WRONG_NUMBERS = (
    "", "-1", "+1", "00", "01", "007", "10000", "12345", "99999", "1" * 50, "1" * 5000, "x", "1x", "x1", "1.0", "0x1",
    "1_0", "\t1", "1\t", "1\r", "\u0661", "\u00b2", "\uff11", "one", "1,", ",", "1-", "1e1", "None", "\x00",
)


def every_deed():
    """Deeds of every word, each with its line."""
    found = [(("settle",), "settle")]
    for first in NUMBERS:
        found.append((("drop", first), f"drop {first}"))
        found.append((("rewrite", first, ()), f"rewrite {first}"))
        for second in NUMBERS:
            found.append((("swap", first, second), f"swap {first} {second}"))
            numbers = (first, second, 3, first)
            found.append((("move", *numbers), f"move {first} {second} 3 {first}"))
            found.append((("add", *numbers), f"add {first} {second} 3 {first}"))
            found.append((("rewrite", second, (first,)), f"rewrite {second} {first}"))
            found.append((("rewrite", second, (first, second, 3)), f"rewrite {second} {first} {second} 3"))
    for keys in (tuple(range(12)), tuple(range(13)), tuple(range(40)), (7, 7), (3, 1, 3), (9999,) * 20):
        found.append((("rewrite", 1, keys), "rewrite 1 " + " ".join(map(str, keys))))
    return found + [(("become", text), "become " + text) for text in STATE_TEXTS]


DEEDS = every_deed()


class ForthAndBackTest(DriftCase):
    def test_each_deed(self):
        for deed, line in DEEDS:
            self.assertEqual(deed_line(deed), line)
            found = parse_deeds(line)
            self.assertEqual(found, [deed])
            self.assertIs(type(found), list)
            self.assertIs(type(found[0]), tuple)
            if deed[0] == "rewrite":
                self.assertIs(type(found[0][2]), tuple)

    def test_many_lines(self):
        text = "\n".join(line for _, line in DEEDS)
        self.assertEqual(parse_deeds(text), [deed for deed, _ in DEEDS])
        self.assertEqual(parse_deeds("settle\nsettle\nsettle"), [("settle",)] * 3)

    def test_no_lines(self):
        self.assertEqual(parse_deeds(""), [])

    def test_the_state_without_keys(self):
        self.assertEqual(deed_line(("become", " /  / ")), "become  /  / ")
        self.assertEqual(parse_deeds("become  /  / "), [("become", str(EMPTY))])
        self.assertEqual(parse_deeds("settle\nbecome  /  / \nsettle")[1], ("become", " /  / "))

    def test_what_does_not_exist_may_be_named(self):
        text = "swap 3 0\nswap 9999 9999\nmove 7 5 5 0\ndrop 9999\nadd 1 9999 9999 9999\nrewrite 8"
        wanted = [
            ("swap", 3, 0), ("swap", 9999, 9999), ("move", 7, 5, 5, 0), ("drop", 9999), ("add", 1, 9999, 9999, 9999),
            ("rewrite", 8, ()),
        ]
        self.assertEqual(parse_deeds(text), wanted)


class WrongLinesTest(DriftCase):
    def check(self, line):
        """The line is refused, alone, first, last and between others, and the first wrong line is told."""
        self.assert_raises(InvalidLine, {"line": 1}, parse_deeds, line if line != "" else "\n")
        self.assert_raises(InvalidLine, {"line": 1}, parse_deeds, line + "\nsettle")
        self.assert_raises(InvalidLine, {"line": 2}, parse_deeds, "settle\n" + line)
        self.assert_raises(InvalidLine, {"line": 3}, parse_deeds, "swap 0 0\ndrop 1\n" + line + "\nsettle\n\nno deed")

    def test_empty_lines(self):
        self.check("")
        self.assert_raises(InvalidLine, {"line": 2}, parse_deeds, "swap 0 1\n")
        self.assert_raises(InvalidLine, {"line": 2}, parse_deeds, "become 1 / 1 / 1\n")
        self.assert_raises(InvalidLine, {"line": 2}, parse_deeds, "settle\n\nsettle")
        self.assert_raises(InvalidLine, {"line": 1}, parse_deeds, "\nsettle")
        self.assert_raises(InvalidLine, {"line": 1}, parse_deeds, "\n\n")

    def test_blanks_too_many_or_at_an_end(self):
        for deed, line in DEEDS[::9] + [(("settle",), "settle"), (("rewrite", 2, ()), "rewrite 2")]:
            if deed[0] != "become":
                for wrong in (" " + line, line + " ", line.replace(" ", "  ", 1) + " " * (" " not in line)):
                    self.check(wrong)
                for blank in ("\t", "\u00a0", "\r", "\x0b"):
                    if " " in line:
                        self.check(line.replace(" ", blank))
                    self.check(line + blank)
        for line in (" ", "  ", "\t", "rewrite 2 ", "rewrite  2", "rewrite 2  3", "settle  ", "rewrite ", "drop  1"):
            self.check(line)

    def test_blanks_behind_become(self):
        for line in (
            "become", "become ", "become  ", " become 1 / 1 / 1", "become  1 / 1 / 1", "become 1 / 1 / 1 ",
            "become 1  / 1 / 1", "become 1 /1 / 1", "become\t1 / 1 / 1", "become / / ", "become  /  /", "become   /  / ",
            "become1 / 1 / 1",
        ):
            self.check(line)

    def test_a_text_that_is_not_that_of_a_state(self):
        for text in (
            "1", "1 / 1", "1 / 1 / 1 / 1", "1 / 2 / 1", "1 1 / 1 1 / 1 1", "01 / 01 / 01", "-1 / -1 / -1", "10000 / 10000 / 10000",
            "x / x / x", "1 2 / 2 1 / 1", "1,2 / 1,2 / 1,2", "1/1/1",
        ):
            self.check("become " + text)
        self.check("become " + " / ".join([" ".join(map(str, range(13)))] * 3))

    def test_words_too_many_or_too_few(self):
        wanted = {"swap": 2, "move": 4, "settle": 0, "add": 4, "drop": 1}
        for word, many in wanted.items():
            for count in range(8):
                line = " ".join([word] + ["1"] * count)
                if count == many:
                    self.assertEqual(parse_deeds(line), [(word,) + (1,) * many])
                else:
                    self.check(line)
        self.check("rewrite")

    def test_wrong_numbers(self):
        lines = ["swap {} 1", "swap 1 {}", "move {} 0 1 2", "move 0 0 1 {}", "drop {}", "add 5 {} 0 0", "add {} 0 0 0"]
        lines += ["rewrite {}", "rewrite {} 1", "rewrite 1 {}", "rewrite 1 2 {} 3"]
        for line, number in product(lines, WRONG_NUMBERS):
            self.check(line.format(number))

    def test_unknown_words(self):
        for word in (
            "Swap", "SWAP", "swaps", "swap:", "undo", "redo", "save", "1", "swap\u0430", "set", "becomes", "rewrites", "-",
            "settle.", "None", "restore",
        ):
            for rest in ("", " 1", " 1 2", " 1 2 3 4", " 1 / 1 / 1"):
                self.check(word + rest)

    def test_other_ends_of_lines(self):
        for end in ("\r\n", "\r", "\x0b", "\x0c", "\x1c", "\x85", "\u2028", "\n\n"):
            wanted = 2 if end == "\n\n" else 1
            self.assert_raises(InvalidLine, {"line": wanted}, parse_deeds, "settle" + end + "settle")

    def test_the_first_wrong_line_is_told(self):
        text = "\n".join(["settle"] * 30 + ["swap 0"] + ["settle"] + ["", "x"])
        self.assert_raises(InvalidLine, {"line": 31}, parse_deeds, text)


class NewListsTest(DriftCase):
    def test_results_are_new(self):
        found = parse_deeds("settle\nswap 1 1")
        found.clear()
        self.assertEqual(parse_deeds("settle\nswap 1 1"), [("settle",), ("swap", 1, 1)])
        state = State.same([3, 1])
        self.assertEqual(parse_deeds(deed_line(("become", str(state)))), [("become", str(state))])


if __name__ == "__main__":
    unittest.main()
