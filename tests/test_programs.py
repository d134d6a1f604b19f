import unittest

from tests.samples import OTHER_THINGS, nested, with_rows
from wildtakes.errors import BadProgram
from wildtakes.programs import is_program, program_text, wild_takes
from wildtakes.runs import Run

TOP = 10 ** 6

# Hand 0 of three hands has these rows.
RIGHT_ROWS = (
    ("send", 1, 0, 5), ("send", 2, 9, "a"), ("send", 1, 4, TOP), ("send", 1, 4, -TOP), ("send", 1, 4, "zzz"),
    ("take", 1, 0, "a"), ("take", 2, 9, "ab"), ("take", None, 3, "abc"), ("take", 1, None, "a"),
    ("take", None, None, "any"),
    ("post", "t", 1, 0, "a"), ("post", "tuv", 2, 9, "abc"), ("post", "t", None, 3, "t"),
    ("post", "t", 1, None, "a"), ("post", "any", None, None, "all"),
    ("wait", "t"), ("wait", "tuv"),
    ("tell", 0), ("tell", TOP), ("tell", -TOP), ("tell", "a"), ("tell", "abc"),
    ("add", "a", 1, 2), ("add", "abc", "a", "b"), ("add", "a", -TOP, "a"), ("add", "a", "a", TOP),
    ("case", "a", 0, (), ()), ("case", "abc", TOP, (("tell", 1),), ()), ("case", "a", -TOP, (), (("all",),)),
    ("case", "a", 1, (("tell", 1), ("tell", 2)), (("case", "a", 1, (), (("all",),)),)),
    ("all",),
)

NO_KIND = ([], [1], (), (1,), ("a",), {}, {"a": 1}, True, False)
NO_HAND = NO_KIND + (0, 3, 4, -1, "1", "a", "")
NO_MARK = NO_KIND + (-1, 10, 99, "1", "a", "")
NO_BOX = NO_KIND + (None, 0, 1, "", "abcd", "A", "aB", "abC", "1", "a1", "a ", " a", "a_", "a\n", "\u00e9", "\u00df")
NO_NUMBER = NO_KIND + (None, TOP + 1, -TOP - 1, "a", "1", "")
NO_THING = NO_KIND + (None, TOP + 1, -TOP - 1, "", "abcd", "A", "aB", "1", "a ", "\u00e9")
NO_ROWS = (
    None, True, False, 0, "", "ab", [], {}, [("tell", 1)], (1,), ("tell", 1), ("all",), ((),), (["tell", 1],),
    (("tell",),), (("send", 0, 0, 0),), (("send", 3, 0, 0),), (("tell", 1), None), (("case", "a", 0, (), None),),
    (("case", "a", 0, (), (("tell", "A"),)),),
)

# For each kind of row a right one, and for each place behind its word what can't stand there.
WRONG_PLACES = (
    (("send", 1, 0, 5), (NO_HAND + (None,), NO_MARK + (None,), NO_THING)),
    (("take", 1, 0, "a"), (NO_HAND, NO_MARK, NO_BOX)),
    (("post", "t", 1, 0, "a"), (NO_BOX, NO_HAND, NO_MARK, NO_BOX)),
    (("wait", "t"), (NO_BOX,)),
    (("tell", 1), (NO_THING,)),
    (("add", "a", 1, 2), (NO_BOX, NO_THING, NO_THING)),
    (("case", "a", 0, (), ()), (NO_BOX, NO_NUMBER, NO_ROWS, NO_ROWS)),
    (("all",), ()),
)

WRONG_WORDS = NO_KIND + (None, 0, 1, "", "Send", "SEND", "sends", "sen", " send", "any", "go", "meet", ("send",), ["send"])


def wrong_rows():
    """Rows that hand 0 of three can't have."""
    for row, places in WRONG_PLACES:
        yield row[:-1]
        yield row + (1,)
        yield row + (None,)
        yield row + ("a",)
        yield row + ((),)
        yield list(row)
        for word in WRONG_WORDS:
            yield (word,) + row[1:]
        for place, things in enumerate(places):
            for thing in things:
                yield row[:place + 1] + (thing,) + row[place + 2:]
    for row in (None, True, False, 0, 1, "", "all", "tell", [], {}, {"all": 1}, ()):
        yield row


class IsProgram(unittest.TestCase):
    def assert_is(self, thing):
        self.assertIs(is_program(thing), True, thing)
        self.assertGreaterEqual(wild_takes(thing), 0)
        self.assertIsInstance(program_text(thing), str)
        self.assertEqual(len(Run(thing)), 0)

    def assert_is_none(self, thing):
        self.assertIs(is_program(thing), False, thing)
        for taker in (wild_takes, program_text, Run, lambda program: Run(program, room=None)):
            with self.assertRaises(BadProgram):
                taker(thing)

    def test_each_kind_of_row(self):
        for row in RIGHT_ROWS:
            self.assert_is(with_rows(row))

    def test_all_kinds_together(self):
        self.assert_is(with_rows(*RIGHT_ROWS[:30]))

    def test_wrong_rows(self):
        for row in wrong_rows():
            self.assert_is_none(with_rows(row))

    def test_wrong_rows_behind_right_ones(self):
        for row in wrong_rows():
            self.assert_is_none(with_rows(("tell", 1), row))
            self.assert_is_none(with_rows(row, ("tell", 1)))

    def test_rows_within_cases_are_rows_of_their_hand(self):
        for row in RIGHT_ROWS:
            self.assert_is(with_rows(*nested(1, (row,))))
            self.assert_is(with_rows(*nested(2, (row,))))
            self.assert_is(with_rows(*nested(30, (row,))))
        for row in wrong_rows():
            self.assert_is_none(with_rows(*nested(1, (row,))))
            self.assert_is_none(with_rows(*nested(2, (row,))))
            self.assert_is_none(with_rows(*nested(30, (row,))))

    def test_a_hand_is_another_one_that_is_there(self):
        for hands in (2, 3, 4, 5):
            for own in range(hands):
                for other in range(-1, 7):
                    for row in (("send", other, 0, 1), ("take", other, 0, "a"), ("post", "t", other, 0, "a"),
                                ("case", "a", 0, (("take", other, 0, "a"),), ())):
                        program = tuple((row,) if hand == own else () for hand in range(hands))
                        if 0 <= other < hands and other != own:
                            self.assert_is(program)
                        else:
                            self.assert_is_none(program)

    def test_truths_are_no_hands(self):
        self.assert_is_none(((("send", True, 0, 1),), ()))
        self.assert_is_none(((), (("take", False, 0, "a"),)))

    def test_every_mark_and_none_beyond(self):
        for mark in range(-3, 13):
            for row in (("send", 1, mark, 1), ("take", 1, mark, "a"), ("post", "t", 1, mark, "a")):
                if 0 <= mark <= 9:
                    self.assert_is(with_rows(row))
                else:
                    self.assert_is_none(with_rows(row))

    def test_two_to_five_scripts(self):
        for hands in range(9):
            if 2 <= hands <= 5:
                self.assert_is(((),) * hands)
                self.assert_is(((("tell", 1),),) * hands)
            else:
                self.assert_is_none(((),) * hands)
                self.assert_is_none(((("tell", 1),),) * hands)

    def test_scripts_are_tuples(self):
        for script in (None, True, 0, "", "tell", [], [("tell", 1)], {}, ("tell", 1), ("all",)):
            self.assert_is_none((script, ()))
            self.assert_is_none(((), script))
        self.assert_is_none([(), ()])

    def test_forty_rows(self):
        tells = (("tell", 1),)
        self.assert_is((tells * 40, ()))
        self.assert_is(((), tells * 40))
        self.assert_is((tells * 20, tells * 20))
        self.assert_is((tells * 8,) * 5)
        self.assert_is_none((tells * 41, ()))
        self.assert_is_none(((), tells * 41))
        self.assert_is_none((tells * 20, tells * 21))
        self.assert_is_none((tells * 8,) * 4 + (tells * 9,))
        self.assert_is_none((tells * 100, ()))

    def test_forty_rows_with_those_within(self):
        tells = (("tell", 1),)
        self.assert_is(((("case", "a", 0, tells * 20, tells * 19),), ()))
        self.assert_is_none(((("case", "a", 0, tells * 20, tells * 20),), ()))
        self.assert_is((nested(39, tells), ()))
        self.assert_is_none((nested(40, tells), ()))
        self.assert_is((nested(40), ()))
        self.assert_is_none((nested(41), ()))
        self.assert_is((nested(20), nested(20)))
        self.assert_is_none((nested(20), nested(21)))
        self.assert_is_none((nested(20), nested(20), tells))

    def test_the_same_rows_at_two_places_count_twice(self):
        shared = ()
        for level in range(60):
            shared = (("case", "a", 0, shared, shared),)
        self.assert_is_none((shared, ()))

    def test_what_lies_very_deep_is_refused_plainly(self):
        self.assert_is_none((nested(3000), ()))
        deep = ()
        for level in range(3000):
            deep = (deep,)
        self.assert_is_none((deep, deep))
        self.assert_is_none(with_rows(("tell", deep)))
        self.assert_is_none(with_rows((deep, 1)))

    def test_other_things(self):
        for thing in OTHER_THINGS:
            self.assert_is_none(thing)


class WildTakes(unittest.TestCase):
    def test_takes_and_posts_from_any_hand(self):
        for rows, many in (
            ((), 0),
            ((("take", 1, 0, "a"),), 0),
            ((("take", 1, None, "a"),), 0),
            ((("take", None, 0, "a"),), 1),
            ((("take", None, None, "a"),), 1),
            ((("post", "t", 1, None, "a"),), 0),
            ((("post", "t", None, 0, "a"),), 1),
            ((("post", "t", None, None, "a"), ("wait", "t"), ("take", None, 1, "b")), 2),
            ((("send", 1, 0, "any"), ("tell", "any"), ("take", 1, 0, "any"), ("all",)), 0),
        ):
            self.assertEqual(wild_takes((rows, ())), many)

    def test_all_hands_count(self):
        wild = (("take", None, 0, "a"),)
        self.assertEqual(wild_takes((wild, wild * 2, (), wild * 3)), 6)
        self.assertEqual(wild_takes((wild * 20, wild * 20)), 40)

    def test_those_within_cases_count(self):
        wild = (("take", None, 0, "a"), ("post", "t", None, None, "b"), ("take", 1, 0, "c"))
        self.assertEqual(wild_takes(((("case", "a", 0, wild, wild),), ())), 4)
        self.assertEqual(wild_takes((nested(30, wild), ())), 2)
        self.assertEqual(wild_takes((nested(5, wild) + wild, ())), 4)


if __name__ == "__main__":
    unittest.main()
