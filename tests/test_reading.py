import itertools
import unittest

from helpers import check_new, some_machines, some_rules

from hallofwords.errors import BadMachine, BadSize, BadText, TooDeep, UnknownName
from hallofwords.machines import least
from hallofwords.reading import read_machine, read_rule
from hallofwords.rules import size_of
from hallofwords.writing import write_machine, write_rule

A = ("one", "a")


class WriteRuleTest(unittest.TestCase):
    def test_every_form(self):
        for rule, text in (
            (("none",), "none\n"),
            (("empty",), "empty\n"),
            (("one", "ab"), "one ab\n"),
            (("row", [A]), "row 1 one a\n"),
            (("either", [A, ("empty",)]), "either 2 one a empty\n"),
            (("both", [A] * 6), "both 6" + " one a" * 6 + "\n"),
            (("not", ("not", A)), "not not one a\n"),
            (("times", A, 0, None), "times 0 - one a\n"),
            (("times", A, 3, 8), "times 3 8 one a\n"),
            (("name", "x9"), "name x9\n"),
        ):
            self.assertEqual(write_rule(rule), text)
            self.assertEqual(read_rule("ab", text, names=("x9",)), rule)

    def test_example(self):
        rule = ("row", [("times", ("either", [A, ("row", [A, A])]), 0, None), ("not", ("none",))])
        self.assertEqual(write_rule(rule), "row 2 times 0 - either 2 one a row 2 one a one a not none\n")


class ReadRuleTest(unittest.TestCase):
    def wrong(self, text, line, column, letters="ab", names=("x",)):
        with self.assertRaises(BadText, msg=text) as caught:
            read_rule(letters, text, names=names)
        self.assertEqual((caught.exception.line, caught.exception.column), (line, column), text)

    def test_what_is_written_is_read_again(self):
        for letters, rule in some_rules(11, 400):
            self.assertEqual(read_rule(letters, write_rule(rule)), rule)

    def test_answers_are_new(self):
        check_new(self, read_rule, "ab", "row 2 row 1 one a row 1 one a\n", names=("x",))

    def test_first_words(self):
        for text in ("None", "x", "ones a", "one\ta", "NOT none", "1", "-", "\u00e4", "\tnone", "none\r", "name\t"):
            self.wrong(text + "\n", 1, 1)
            self.wrong("not " + text + "\n", 1, 5)
            self.wrong("row 2 none " + text + "\n", 1, 12)

    def test_signs(self):
        for word in ("c", "ba", "aa", "abc", "A", "a,b", "row"):
            self.wrong(f"one {word}\n", 1, 5)
            self.wrong(f"row 2 one a one {word}\n", 1, 17)
        self.assertEqual(read_rule("ba", "one ba\n"), ("one", "ba"))
        self.wrong("one ab\n", 1, 5, letters="ba")

    def test_numbers_of_rules(self):
        for word in ("0", "7", "9", "10", "01", "-1", "+1", "x", "none", "\u00b2", "\u0663", "1.0", "-"):
            for kind in ("row", "either", "both"):
                self.wrong(f"{kind} {word} none\n", 1, len(kind) + 2)

    def test_low_and_high(self):
        for word in ("9", "-", "00", "01", "10", "-1", "x", "", "\u0663", "+1"):
            self.wrong(f"times {word} 8 none\n", 1, 7)
        for low, high in itertools.product(range(9), [str(k) for k in range(12)] + ["-", "--", "", "x", "08"]):
            text = f"times {low} {high} none\n"
            if high == "-":
                self.assertEqual(read_rule("ab", text), ("times", ("none",), low, None))
            elif len(high) == 1 and high.isdigit() and low <= int(high) <= 8:
                self.assertEqual(read_rule("ab", text), ("times", ("none",), low, int(high)))
            else:
                self.wrong(text, 1, 9)

    def test_names(self):
        for word in ("1x", "X", "xY", "x_y", "abcdefghijklm", "-", "\u00e4"):
            self.wrong(f"name {word}\n", 1, 6)
        self.assertEqual(read_rule("ab", "name none\n", names=("x", "none")), ("name", "none"))

    def test_words_without_signs(self):
        self.wrong(" none\n", 1, 1)
        self.wrong("none \n", 1, 6)
        self.wrong("not  none\n", 1, 5)
        self.wrong("one  a\n", 1, 5)
        self.wrong("row  1 none\n", 1, 5)
        self.wrong("times 1  2 none\n", 1, 9)
        self.wrong("name  x\n", 1, 6)
        self.wrong("one \n", 1, 5)
        self.wrong("not \n", 1, 5)
        self.wrong("row 2 none \n", 1, 12)
        self.wrong(" \n", 1, 1)
        self.wrong(" ", 1, 1)

    def test_words_behind_the_rule(self):
        self.wrong("none none\n", 1, 6)
        self.wrong("row 1 one a one a\n", 1, 13)
        self.wrong("times 0 - none x\n", 1, 16)

    def test_not_whole(self):
        for text in ("one", "row", "row 2", "row 2 none", "not", "not not", "times", "times 1", "times 1 -", "name",
                     "either 3 none one a", "both 1"):
            self.wrong(text + "\n", 1, len(text) + 1)
            self.wrong(text, 1, len(text) + 1)
            self.wrong(text + "\nnone\n", 1, len(text) + 1)

    def test_no_newline(self):
        self.wrong("none", 1, 5)
        self.wrong("row 2 one a one b", 1, 18)

    def test_no_sign_at_all(self):
        self.wrong("", 1, 1)
        self.wrong("\n", 1, 1)
        self.wrong("\nnone\n", 1, 1)

    def test_second_line(self):
        for behind in ("\n", "none", "none\n", " ", "x\ny\n", "\n\n"):
            self.wrong("none\n" + behind, 2, 1)
            self.wrong("none" + "x\n" + behind, 1, 1)

    def test_wrong_word_ahead_of_not_whole(self):
        self.wrong("row 3 nine none", 1, 7)
        self.wrong("row 3 none nine", 1, 12)
        self.wrong("not one c\nx", 1, 9)

    def test_behind_the_form(self):
        with self.assertRaises(UnknownName) as caught:
            read_rule("ab", "row 2 name y name z\n", names=("x", "z"))
        self.assertEqual(caught.exception.name, "y")
        with self.assertRaises(UnknownName):
            read_rule("ab", "name x\n")
        with self.assertRaises(TooDeep):
            read_rule("ab", "not " * 9 + "none\n")
        self.assertEqual(write_rule(read_rule("ab", "not " * 8 + "none\n")), "not " * 8 + "none\n")
        with self.assertRaises(BadSize) as caught:
            read_rule("ab", "row 6" + (" row 6" + " row 1 none" * 6) * 6 + "\n")
        self.assertEqual(caught.exception.size, 79)

    def test_form_ahead_of_what_is_behind_it(self):
        self.wrong("row 2 name y nine\n", 1, 14)
        self.wrong("not " * 9 + "nine\n", 1, 37)
        self.wrong("not " * 9 + "none", 1, 41)
        self.wrong("name y\n\n", 2, 1)

    def test_sixty_parts(self):
        six = " row 6" + " none" * 6
        text = "row 4 row 5" + six * 5 + " row 3" + six * 3
        self.assertEqual(size_of(read_rule("ab", "row 3" + text[5:] + " none\n")), 60)
        with self.assertRaises(BadSize) as caught:
            read_rule("ab", text + " none none\n")
        self.assertEqual(caught.exception.size, 61)

    def test_long_and_deep_texts(self):
        for head, depth in (("not ", 998), ("row 1 ", 660), ("times 0 - ", 398), ("either 1 ", 440)):
            with self.assertRaises(TooDeep):
                read_rule("ab", head * depth + "none\n")
            self.wrong(head * depth + "nine\n", 1, len(head) * depth + 1)
            self.wrong(head * depth + "\n", 1, len(head) * depth + 1)
            self.wrong(head * depth + "none", 1, len(head) * depth + 5)
        with self.assertRaises(UnknownName):
            read_rule("ab", "row 2 name y " + "not " * 900 + "none\n")
        self.wrong("x" * 4000, 1, 1)
        self.wrong("none\n" * 800, 2, 1)
        self.wrong("none " * 800, 1, 6)


class MachineTextTest(unittest.TestCase):
    def wrong(self, text, line, column, letters="ab"):
        with self.assertRaises(BadText, msg=text) as caught:
            read_machine(letters, text)
        self.assertEqual((caught.exception.line, caught.exception.column), (line, column), text)

    def test_write(self):
        self.assertEqual(write_machine(([[0, 0]], [True])), "0 0 end\n")
        self.assertEqual(write_machine(([[1, 0], [1, 1]], [False, True])), "1 0 on\n1 1 end\n")
        self.assertEqual(write_machine(([[10]] * 60, [False] * 60)), "10 on\n" * 60)

    def test_what_is_written_is_read_again(self):
        for letters, machine in some_machines(12, 200, most=12):
            self.assertEqual(read_machine(letters, write_machine(machine)), machine)
        wide = ([[k, 59 - k] for k in range(60)], [k % 3 == 0 for k in range(60)])
        self.assertEqual(read_machine("ab", write_machine(wide)), wide)

    def test_not_made_least(self):
        machine = ([[1, 1], [1, 1], [0, 0]], [True, True, False])
        self.assertNotEqual(least("ab", machine), machine)
        self.assertEqual(check_new(self, read_machine, "ab", write_machine(machine)), machine)
        check_new(self, write_machine, machine)

    def test_numbers(self):
        for word in ("60", "00", "01", "059", "-1", "+1", "x", "", "1.0", "end", "on", "\u0663", "\u00b2", "100", "1_0"):
            self.wrong(f"{word} 0 on\n", 1, 1)
            self.wrong(f"0 {word} on\n", 1, 3)
            self.wrong(f"0 0 on\n0 {word} on\n0 0 end\n", 2, 3)
        self.wrong("0 end\n", 1, 3)
        self.wrong("end\n", 1, 1)

    def test_end_and_on(self):
        for word in ("0", "END", "off", "", "on\t", "ends", "True", "1"):
            self.wrong(f"0 0 {word}\n", 1, 5)
            self.wrong(f"0 0 on\n0 0 {word}\n", 2, 5)
        self.wrong("0 0 on on\n", 1, 8)
        self.wrong("0 0 end 0\n", 1, 9)
        self.wrong("0 0 end \n", 1, 9)
        self.wrong("0 0 0 end\n", 1, 5)
        self.wrong(" 0 0 end\n", 1, 1)
        self.wrong("0  0 end\n", 1, 3)

    def test_words_that_lack(self):
        self.wrong("0 0\n", 1, 4)
        self.wrong("0\n", 1, 2)
        self.wrong("0 0 on\n0 0\n0 0 on\n", 2, 4)
        self.wrong("0 0 on\n\n0 0 on\n", 2, 1)
        self.wrong("0 0\nx\n", 1, 4)
        self.wrong("\n", 1, 1)
        self.wrong("0 0 on\n\n", 2, 1)

    def test_no_newline(self):
        self.wrong("0 0 end", 1, 8)
        self.wrong("0 0 on\n0 0 end", 2, 8)
        self.wrong("0 0 on\n0 0", 2, 4)
        self.wrong("0 0 on\n0", 2, 2)
        self.wrong("0 0 on\n0 x", 2, 3)
        self.wrong("0 0 on\n ", 2, 1)
        self.wrong("0 0 on\n0 0 on on", 2, 8)

    def test_no_sign_at_all(self):
        self.wrong("", 1, 1)

    def test_first_wrong_line(self):
        self.wrong("0 0 on\n0 0 x\n0 60 on\n", 2, 5)
        self.wrong("0 0 on\n0 0\n0 60 on", 2, 4)

    def test_bad_machine_behind_the_form(self):
        for text in ("1 0 on\n", "0 59 end\n", "0 0 on\n2 0 on\n", "0 0 on\n" * 61, "0 0 on\n" * 500):
            with self.assertRaises(BadMachine):
                read_machine("ab", text)
        self.wrong("1 0 on\n0 0 on", 2, 7)
        self.wrong("59 0 on\n0 x on\n", 2, 3)
        self.assertEqual(read_machine("ab", "59 0 on\n" * 60), ([[59, 0]] * 60, [False] * 60))
        self.assertEqual(read_machine("abcdef", "0 0 0 0 0 0 end\n"), ([[0] * 6], [True]))


if __name__ == "__main__":
    unittest.main()
