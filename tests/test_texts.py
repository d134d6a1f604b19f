import random
import re
import unittest

from tests.samples import OTHER_THINGS, nested, random_program, with_rows
from wildtakes.errors import BadText
from wildtakes.programs import is_program, program_text, read_program

TOP = 10 ** 6

# Rows of hand 0 of three, and their texts.
ROW_TEXTS = (
    (("send", 1, 0, 5), "send 1 0 5"),
    (("send", 2, 9, "abc"), "send 2 9 abc"),
    (("send", 2, 9, -TOP), "send 2 9 -1000000"),
    (("take", 1, 3, "a"), "take 1 3 a"),
    (("take", None, 3, "a"), "take any 3 a"),
    (("take", 2, None, "ab"), "take 2 any ab"),
    (("take", None, None, "any"), "take any any any"),
    (("post", "t", 1, 0, "a"), "post t 1 0 a"),
    (("post", "t", None, 0, "a"), "post t any 0 a"),
    (("post", "t", 1, None, "a"), "post t 1 any a"),
    (("post", "any", None, None, "any"), "post any any any any"),
    (("wait", "t"), "wait t"),
    (("wait", "any"), "wait any"),
    (("tell", 0), "tell 0"),
    (("tell", TOP), "tell 1000000"),
    (("tell", "any"), "tell any"),
    (("add", "a", 1, -2), "add a 1 -2"),
    (("add", "add", "any", "all"), "add add any all"),
    (("all",), "all"),
    (("case", "a", 0, (), ()), "case a 0 {} {}"),
    (("case", "any", -7, (("all",),), ()), "case any -7 {all} {}"),
    (("case", "a", 10, (), (("tell", 1), ("take", None, 0, "b"))), "case a 10 {} {tell 1; take any 0 b}"),
    (("case", "a", 1, (("tell", 1), ("all",), ("tell", "b")), (("all",), ("wait", "t"))),
     "case a 1 {tell 1; all; tell b} {all; wait t}"),
    (("case", "a", 1, (("case", "b", 2, (("case", "c", 3, (), ()),), (("all",),)), ("all",)), (("tell", 4),)),
     "case a 1 {case b 2 {case c 3 {} {}} {all}; all} {tell 4}"),
)

NUMBER = "(?:0|-?[1-9][0-9]{0,5}|-?1000000)"
BOX = "[a-z]{1,3}"
THING = f"(?:{NUMBER}|{BOX})"
ANY_MARK = "(?:[0-9]|any)"


def row_pattern(hand, hands, depth):
    """A pattern for the rows of a hand, with cases that many within one another."""
    others = "".join(str(other) for other in range(hands) if other != hand)
    whence = f"(?:[{others}]|any)"
    forms = [
        f"send [{others}] [0-9] {THING}", f"take {whence} {ANY_MARK} {BOX}", f"post {BOX} {whence} {ANY_MARK} {BOX}",
        f"wait {BOX}", f"tell {THING}", f"add {BOX} {THING} {THING}", "all",
    ]
    if depth:
        rows = rows_pattern(hand, hands, depth - 1)
        forms.append(f"case {BOX} {NUMBER} {{{rows}}} {{{rows}}}")
    return "(?:" + "|".join(forms) + ")"


def rows_pattern(hand, hands, depth):
    row = row_pattern(hand, hands, depth)
    return f"(?:{row}(?:; {row})*)?"


PATTERNS = {
    hands: re.compile("".join(rows_pattern(hand, hands, 2) + "\n" for hand in range(hands))) for hands in (2, 3, 4, 5)
}


def is_text(text):
    """Whether a text of few rows, with cases at most two within one another, is that of a program."""
    pattern = PATTERNS.get(text.count("\n"))
    return pattern is not None and pattern.fullmatch(text) is not None


class Writing(unittest.TestCase):
    def test_each_kind_of_row(self):
        for row, text in ROW_TEXTS:
            self.assertEqual(program_text(with_rows(row)), text + "\n\n\n")
            self.assertEqual(program_text(with_rows(row, ("all",), row)), f"{text}; all; {text}\n\n\n")

    def test_hands_stand_line_by_line(self):
        program = ((("send", 1, 0, 5), ("all",)), (), (("take", None, 0, "x"),))
        self.assertEqual(program_text(program), "send 1 0 5; all\n\ntake any 0 x\n")

    def test_empty_scripts(self):
        for hands in (2, 3, 4, 5):
            self.assertEqual(program_text(((),) * hands), "\n" * hands)

    def test_cases_as_deep_as_may_be(self):
        text = program_text((nested(40), ()))
        self.assertEqual(text.count("{"), 80)
        self.assertEqual(text.count("case a 0 "), 40)


class Reading(unittest.TestCase):
    def assert_refused(self, *texts):
        for text in texts:
            with self.assertRaises(BadText, msg=repr(text)):
                read_program(text)

    def test_each_kind_of_row(self):
        for row, text in ROW_TEXTS:
            self.assertEqual(read_program(text + "\n\n\n"), with_rows(row))
            self.assertEqual(read_program(f"{text}; all; {text}\n\n\n"), with_rows(row, ("all",), row))

    def test_kinds_of_what_is_read(self):
        program = read_program("take any 0 any; case a 1 {tell 2} {}\n\n")
        self.assertEqual(repr(program), "((('take', None, 0, 'any'), ('case', 'a', 1, (('tell', 2),), ())), ())")

    def test_empty_scripts(self):
        for hands in range(8):
            if 2 <= hands <= 5:
                self.assertEqual(read_program("\n" * hands), ((),) * hands)
            else:
                self.assert_refused("\n" * hands)

    def test_what_is_written_is_read_back(self):
        for seed in range(300):
            program = random_program(seed, True)
            self.assertEqual(read_program(program_text(program)), program)
        for program in ((nested(40), ()), ((), nested(39, (("tell", 1),))), ((("tell", 1),) * 40, ())):
            self.assertEqual(read_program(program_text(program)), program)

    def test_numbers_in_one_form_alone(self):
        for number in ("0", "7", "-7", "10", "-10", "1000000", "-1000000", "999999"):
            self.assertEqual(read_program(f"tell {number}\n\n"), ((("tell", int(number)),), ()))
            self.assertEqual(read_program(f"case a {number} {{}} {{}}\n\n"), ((("case", "a", int(number), (), ()),), ()))
        for number in ("-0", "+0", "+7", "00", "07", "-07", "0007", "--7", "-", "+", "1-", "1 0", "1_0", "1.0", "1e3",
                       "0x1", "1000001", "-1000001", "01000000", "9" * 7, "9" * 15, "9" * 5000, "0" * 5000, "\u0663",
                       "\u00b2", "\uff11", "True", "None", "7a", "a7"):
            self.assert_refused(f"tell {number}\n\n", f"case a {number} {{}} {{}}\n\n", f"add a 1 {number}\n\n")

    def test_marks_and_hands(self):
        for text in ("send 1 00 5", "send 01 0 5", "send 1 10 5", "send 1 -1 5", "send 1 -0 5", "send +1 0 5",
                     "send any 0 5", "send 1 any 5", "send 0 0 5", "send 2 0 5", "take 0 0 a", "take 2 0 a",
                     "take 1 10 a", "take Any 0 a", "take None 0 a", "take 1 None a", "post t 0 0 a", "post t 2 0 a"):
            self.assert_refused(text + "\n\n")

    def test_wrong_words(self):
        for text in ("tell", "tell 1 2", "tell A", "tell abcd", "wait 1", "wait", "all 1", "all a", "All", "al", "any",
                     "1", "a", "go 1", "Tell 1", "add a 1", "add 1 1 1", "case a 0", "case a 0 {}", "case a 0 {} {} {}",
                     "case a b {} {}", "case 1 0 {} {}", "case a any {} {}", "tell any any", "tell {}", "all {}"):
            self.assert_refused(text + "\n\n")

    def test_blanks_and_signs_between(self):
        for text in (" all", "all ", "tell  1", "tell\t1", "tell 1 ", "all;all", "all ;all", "all ; all", "all;  all",
                     "all;", "all; ", "; all", ";", "; ", "all;; all", "all; ; all", "all, all", "all\r", "all\x0call",
                     "case a 0 {}{}", "case a 0 { } {}", "case a 0 {all } {}", "case a 0 { all} {}", "case a 0 {}  {}",
                     "case a 0{} {}", "case a 0 {} {};", "case a 0 {all;} {}", "case a 0 {all; } {}", "case a 0 {;} {}",
                     "case a 0 {} {}all", "case a 0 {} {} all", "tell\u00a01", " ", "case a 0 {all;all} {}"):
            self.assert_refused(text + "\n\n", "\n" + text + "\n")

    def test_braces_that_do_not_match(self):
        for text in ("{", "}", "{}", "{} {}", "}{", "case a 0 {", "case a 0 {}", "case a 0 {} {", "case a 0 {} {}}",
                     "case a 0 {{} {}", "case a 0 {} }{", "case a 0 {{}} {}", "case {} 0 {} {}", "{all}", "{all} any",
                     "{tell 1} 5", "case a 0 {case b 0 {} {} {}", "case a 0 () ()", "case a 0 [] []"):
            self.assert_refused(text + "\n\n")

    def test_line_feeds(self):
        self.assertEqual(read_program("all\n\n"), ((("all",),), ()))
        self.assert_refused("", "all", "all\n", "all\nall", "\nall", "all\n\n\nall", "all\n\n ", "all\r\n\r\n",
                            "case a 0 {\n} {}\n\n", "tell\n1\n", "all\n\n\n\n\n\n")

    def test_texts_of_what_is_no_program(self):
        self.assert_refused("all\n", "\n", "all\n" * 6)
        forty = "; ".join(["all"] * 40)
        self.assertEqual(read_program(f"{forty}\n\n"), ((("all",),) * 40, ()))
        self.assert_refused(f"{forty}; all\n\n", f"{forty}\nall\n")
        deep = "case a 0 {" * 40 + "} {}" * 40
        self.assertEqual(len(read_program(deep + "\n\n")[0]), 1)
        self.assert_refused("case a 0 {" + deep + "} {}\n\n", deep + "\nall\n")

    def test_what_lies_very_deep_is_refused_plainly(self):
        for many in (100, 3000, 50000):
            self.assert_refused("{" * many + "\n\n", "{" * many + "}" * many + "\n\n", "}" * many + "\n\n",
                                "case a 0 {" * many + "} {}" * many + "\n\n",
                                "{" * many + "}" * many + " any\n\n", "tell " + "{" * many + "}" * many + "\n\n")

    def test_what_is_no_text(self):
        for thing in OTHER_THINGS:
            if not isinstance(thing, str):
                self.assert_refused(thing)
        self.assert_refused((), ((), ()), ("\n", "\n"), ["\n\n"], {"\n\n": 1})

    def test_other_texts(self):
        self.assert_refused("a", "abc", "going", "send 1 0 0\n", "(), ()", "((), ())\n\n")

    def check(self, text):
        """That a text is read just if a pattern made by the document has it."""
        try:
            program = read_program(text)
        except BadText:
            self.assertFalse(is_text(text), text)
        else:
            self.assertTrue(is_text(text), text)
            self.assertTrue(is_program(program))
            self.assertEqual(program_text(program), text)

    def test_each_sign_left_out_put_in_or_changed(self):
        for text in ("send 1 0 5; take any 3 ab\ntell -10; all\n\n",
                     "case a 1 {tell 1; case b 0 {} {all}} {wait t}\npost t any any x; add a b 7\n"):
            self.check(text)
            for at in range(len(text) + 1):
                self.check(text[:at] + text[at + 1:])
                self.check(text[:at] + text[at:at + 1] + text[at:])
                for sign in "a0-+19 ;{}\nA\t":
                    self.check(text[:at] + sign + text[at:])
                    self.check(text[:at] + sign + text[at + 1:])

    def test_words_put_together_at_random(self):
        chance = random.Random(5)
        words = ("send 1 0 5", "take any 0 a", "tell 1", "all", "; ", "; ", "{", "}", " ", "case a 0 {", "} {", "}", "\n")
        for turn in range(4000):
            text = "".join(chance.choice(words) for word in range(chance.randrange(8))) + "\n\n"
            if text.count("case") <= 2:
                self.check(text)


if __name__ == "__main__":
    unittest.main()
