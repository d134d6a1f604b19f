import unittest

from tests.samples import OTHER_THINGS, ROOMS, do_all
from wildtakes.errors import BadProgram, BadRoom
from wildtakes.runs import Run


class Rooms(unittest.TestCase):
    def test_rooms_that_are_some(self):
        for room in ROOMS:
            self.assertEqual(Run(((), ()), room=room).state(), "done")

    def test_no_other_rooms(self):
        for room in (-1, 100, 101, -99, 10 ** 14, True, False, "", "0", "1", "None", [], [0], (), (0,), {}, {0: 0}):
            with self.assertRaises(BadRoom, msg=repr(room)):
                Run(((), ()), room=room)

    def test_the_program_is_refused_first(self):
        for thing in OTHER_THINGS:
            with self.assertRaises(BadProgram):
                Run(thing, room=-1)

    def test_room_is_0_if_none_is_told(self):
        run = do_all(Run(((("send", 1, 0, 5), ("tell", 1)), ())), 0)
        self.assertEqual(run.events(), [])

    def test_room_is_handed_in_by_name(self):
        with self.assertRaises(TypeError):
            Run(((), ()), 0)

    def test_how_many_are_let_go(self):
        sends = (("send", 1, 0, 5),) * 39
        for room, many in ((0, 1), (1, 2), (2, 3), (37, 38), (38, 39)):
            run = Run((sends, ()), room=room)
            for turn in range(many):
                self.assertEqual(run.events(), [("go", 0)])
                run.do(("go", 0))
            self.assertEqual(run.events(), [])
            self.assertEqual(len(run.on_way(0, 1)), many)
            self.assertEqual(run.state(), "stuck")
            self.assertEqual(run.end()[0], ((), (), (), 39 - many + 1))
        for room in (39, 40, 99, None):
            run = do_all(Run((sends, ()), room=room), *[0] * 39)
            self.assertEqual(run.state(), "done")
            self.assertEqual(len(run.on_way(0, 1)), 39)


class Sends(unittest.TestCase):
    def test_one_waits_at_room_0_until_it_is_met(self):
        run = Run(((("send", 1, 3, 5), ("tell", 7)), (("take", 0, 3, "x"), ("tell", "x"))))
        self.assertEqual(run.events(), [("go", 0), ("go", 1)])
        run.do(("go", 0))
        self.assertEqual(run.on_way(0, 1), [(0, 3, 5)])
        self.assertEqual(run.events(), [("go", 1)])
        run.do(("go", 1))
        self.assertEqual(run.open_takes(1), [0])
        self.assertEqual(run.events(), [("meet", 0, 0, 1, 0)])
        run.do(("meet", 0, 0, 1, 0))
        self.assertEqual(run.on_way(0, 1), [])
        self.assertEqual(run.open_takes(1), [])
        self.assertEqual(run.boxes(1), {"x": 5})
        self.assertEqual(run.events(), [("go", 0), ("go", 1)])
        do_all(run, 0, 1)
        self.assertEqual(run.end(), (((), (7,), (), 0), ((("x", 5),), (5,), ((0, 0, 0),), 0)))

    def test_one_is_let_go_and_met_later(self):
        run = do_all(Run(((("send", 1, 3, 5), ("tell", 7)), (("take", 0, 3, "x"),)), room=1), 0)
        self.assertEqual(run.on_way(0, 1), [(0, 3, 5)])
        self.assertEqual(run.events(), [("go", 0), ("go", 1)])
        do_all(run, 0)
        self.assertEqual(run.told(0), [7])
        do_all(run, 1, (0, 0, 1, 0))
        self.assertEqual(run.boxes(1), {"x": 5})
        self.assertEqual(run.state(), "done")

    def test_one_waits_behind_others_and_is_let_go_when_one_of_them_is_met(self):
        for met, left in ((0, [(1, 1, 6), (2, 2, 7)]), (1, [(0, 0, 5), (2, 2, 7)])):
            run = Run(((("send", 1, 0, 5), ("send", 1, 1, 6), ("send", 1, 2, 7), ("tell", 8)),
                       (("take", 0, met, "x"),)), room=2)
            do_all(run, 0, 0, 0)
            self.assertEqual(run.on_way(0, 1), [(0, 0, 5), (1, 1, 6), (2, 2, 7)])
            self.assertEqual(run.events(), [("go", 1)])
            do_all(run, 1, (0, met, 1, 0))
            self.assertEqual(run.on_way(0, 1), left)
            self.assertEqual(run.events(), [("go", 0)])
            do_all(run, 0)
            self.assertEqual(run.end(), (((), (8,), (), 0), ((("x", 5 + met),), (), ((0, 0, met),), 0)))

    def test_one_waits_behind_others_and_is_met_itself(self):
        run = Run(((("send", 1, 0, 5), ("send", 1, 1, 6), ("send", 1, 1, 7)), (("take", 0, 1, "x"),)), room=1)
        do_all(run, 0, 0)
        self.assertEqual(run.events(), [("go", 1)])
        do_all(run, 1, (0, 1, 1, 0))
        self.assertEqual(run.on_way(0, 1), [(0, 0, 5)])
        self.assertEqual(run.events(), [("go", 0)])
        do_all(run, 0)
        self.assertEqual(run.on_way(0, 1), [(0, 0, 5), (2, 1, 7)])
        self.assertEqual(run.end(), (((), (), (), 1), ((("x", 6),), (), ((0, 0, 1),), 0)))

    def test_what_was_let_go_late_takes_room_itself(self):
        run = Run(((("send", 1, 0, 5), ("send", 1, 0, 6), ("send", 1, 0, 7)), (("take", 0, 0, "x"),)), room=1)
        do_all(run, 0, 0, 1, (0, 0, 1, 0), 0)
        self.assertEqual(run.on_way(0, 1), [(1, 0, 6), (2, 0, 7)])
        self.assertEqual(run.end(), (((), (), (), 1), ((("x", 5),), (), ((0, 0, 0),), 0)))

    def test_each_way_has_room_of_its_own(self):
        program = (
            (("send", 1, 0, 1), ("send", 2, 0, 2), ("send", 1, 0, 3)), (("send", 2, 0, 4), ("send", 0, 0, 5)), ())
        run = do_all(Run(program, room=1), 0, 0, 0, 1, 1)
        self.assertEqual(run.on_way(0, 1), [(0, 0, 1), (2, 0, 3)])
        self.assertEqual(run.on_way(0, 2), [(1, 0, 2)])
        self.assertEqual(run.on_way(1, 2), [(0, 0, 4)])
        self.assertEqual(run.on_way(1, 0), [(1, 0, 5)])
        self.assertEqual(run.on_way(2, 0), [])
        self.assertEqual(run.on_way(2, 1), [])
        self.assertEqual([part[3] for part in run.end()], [1, 0, 0])

    def test_a_meeting_on_another_way_lets_nobody_go(self):
        program = ((("send", 2, 0, 1), ("send", 1, 0, 2), ("send", 1, 0, 3)), (), (("take", 0, 0, "x"),))
        run = do_all(Run(program, room=1), 0, 0, 0, 2, (0, 0, 2, 0))
        self.assertEqual(run.events(), [])
        self.assertEqual(run.end()[0], ((), (), (), 1))

    def test_values_are_taken_at_the_send(self):
        program = ((("add", "a", 1, 2), ("send", 1, 0, "a"), ("add", "a", 5, 5), ("send", 1, 0, "b")),
                   (("take", 0, 0, "x"), ("take", 0, 0, "y")))
        run = do_all(Run(program, room=None), 0, 0, 0, 0)
        self.assertEqual(run.on_way(0, 1), [(0, 0, 3), (1, 0, 0)])
        do_all(run, 1, (0, 0, 1, 0), 1, (0, 1, 1, 1))
        self.assertEqual(run.boxes(1), {"x": 3})


class Takes(unittest.TestCase):
    def test_a_take_waits_and_fills_its_box(self):
        run = do_all(Run(((("take", 1, 0, "x"), ("send", 1, 0, "x")), (("send", 0, 0, 9),)), room=None), 0)
        self.assertEqual(run.events(), [("go", 1)])
        self.assertEqual(run.open_takes(0), [0])
        do_all(run, 1, (1, 0, 0, 0), 0)
        self.assertEqual(run.on_way(0, 1), [(0, 0, 9)])

    def test_a_value_of_0_empties_the_box(self):
        program = ((("add", "x", 1, 1), ("take", 1, 0, "x")), (("send", 0, 0, 0),))
        run = do_all(Run(program, room=None), 0, 0)
        self.assertEqual(run.boxes(0), {"x": 2})
        do_all(run, 1, (1, 0, 0, 0))
        self.assertEqual(run.boxes(0), {})
        self.assertEqual(run.end()[0], ((), (), ((0, 1, 0),), 0))

    def test_sends_and_takes_are_numbered_by_hand(self):
        program = ((("post", "t", 1, 0, "a"), ("send", 2, 0, 1), ("take", 2, 0, "b"), ("send", 1, 0, 2)),
                   (("send", 0, 0, 3), ("take", 0, 0, "c")), (("send", 0, 0, 4), ("take", 0, 0, "d")))
        run = do_all(Run(program, room=None), 0, 0, 0, 1, 1, 2, 2)
        self.assertEqual(run.events(), [("meet", 0, 0, 2, 0), ("meet", 1, 0, 0, 0), ("meet", 2, 0, 0, 1)])
        do_all(run, (2, 0, 0, 1), 0)
        self.assertEqual(run.events(), [("meet", 0, 0, 2, 0), ("meet", 0, 1, 1, 0), ("meet", 1, 0, 0, 0)])


class Posts(unittest.TestCase):
    def run_of(self, *rows):
        """A run whose hand 1 has these rows, and hand 0 sends 5 with mark 0 and 6 with mark 1, both let go."""
        return do_all(Run(((("send", 1, 0, 5), ("send", 1, 1, 6)), rows), room=None), 0, 0)

    def test_met_ahead_of_the_wait(self):
        run = do_all(self.run_of(("post", "t", 0, 0, "x"), ("tell", "x"), ("wait", "t"), ("tell", "x")), 1)
        self.assertEqual(run.open_takes(1), [0])
        self.assertEqual(run.events(), [("go", 1), ("meet", 0, 0, 1, 0)])
        do_all(run, (0, 0, 1, 0))
        self.assertEqual(run.open_takes(1), [])
        self.assertEqual(run.boxes(1), {})
        do_all(run, 1)
        self.assertEqual(run.boxes(1), {})
        do_all(run, 1)
        self.assertEqual(run.boxes(1), {"x": 5})
        do_all(run, 1)
        self.assertEqual(run.end()[1], ((("x", 5),), (0, 5), ((0, 0, 0),), 0))

    def test_met_behind_the_wait(self):
        run = do_all(self.run_of(("post", "t", 0, 0, "x"), ("wait", "t"), ("tell", "x")), 1, 1)
        self.assertEqual(run.events(), [("meet", 0, 0, 1, 0)])
        self.assertEqual(run.boxes(1), {})
        do_all(run, (0, 0, 1, 0))
        self.assertEqual(run.boxes(1), {"x": 5})
        self.assertEqual(run.events(), [("go", 1)])
        do_all(run, 1)
        self.assertEqual(run.told(1), [5])

    def test_never_waited_for(self):
        run = do_all(self.run_of(("post", "t", 0, 0, "x")), 1)
        self.assertEqual(run.state(), "going")
        do_all(run, (0, 0, 1, 0))
        self.assertEqual(run.end()[1], ((), (), ((0, 0, 0),), 0))

    def test_never_met(self):
        run = do_all(self.run_of(("post", "t", 0, 2, "x")), 1)
        self.assertEqual(run.state(), "done")
        self.assertEqual(run.open_takes(1), [0])
        self.assertEqual(run.end()[1], ((), (), (), 0))

    def test_never_posted(self):
        run = do_all(self.run_of(("wait", "t"), ("post", "t", 0, 0, "x"), ("wait", "u"), ("tell", 1)), 1, 1, 1, 1)
        self.assertEqual(run.told(1), [1])

    def test_tickets_are_each_hand_s_own(self):
        run = Run(((("post", "t", 1, 0, "x"),), (("wait", "t"), ("tell", 1))))
        do_all(run, 0, 1, 1)
        self.assertEqual(run.told(1), [1])

    def test_waited_for_twice(self):
        for first in ((1, (0, 0, 1, 0), 1), (1, 1, (0, 0, 1, 0))):
            run = do_all(self.run_of(("post", "t", 0, 0, "x"), ("wait", "t"), ("add", "x", 0, 0), ("wait", "t"),
                                     ("tell", "x")), *first)
            self.assertEqual(run.boxes(1), {"x": 5})
            do_all(run, 1, 1)
            self.assertEqual(run.boxes(1), {})
            do_all(run, 1)
            self.assertEqual(run.told(1), [0])

    def test_a_ticket_used_again_stands_for_the_last_post(self):
        rows = (("post", "t", 0, 0, "x"), ("post", "t", 0, 1, "y"), ("wait", "t"), ("wait", "t"), ("tell", 1))
        run = do_all(self.run_of(*rows), 1, 1, 1)
        self.assertEqual(run.open_takes(1), [0, 1])
        self.assertEqual(run.events(), [("meet", 0, 0, 1, 0), ("meet", 0, 1, 1, 1)])
        do_all(run, (0, 0, 1, 0))
        self.assertEqual(run.events(), [("meet", 0, 1, 1, 1)])
        self.assertEqual(run.boxes(1), {})
        do_all(run, (0, 1, 1, 1))
        self.assertEqual(run.boxes(1), {"y": 6})
        do_all(run, 1, 1)
        self.assertEqual(run.end()[1], ((("y", 6),), (1,), ((0, 0, 0), (1, 0, 1)), 0))

    def test_a_ticket_used_again_when_the_first_post_has_met(self):
        rows = (("post", "t", 0, 0, "x"), ("post", "t", 0, 1, "y"), ("wait", "t"))
        run = do_all(self.run_of(*rows), 1, (0, 0, 1, 0), 1, 1)
        self.assertEqual(run.events(), [("meet", 0, 1, 1, 1)])
        do_all(run, (0, 1, 1, 1))
        self.assertEqual(run.end()[1], ((("y", 6),), (), ((0, 0, 0), (1, 0, 1)), 0))

    def test_a_ticket_used_again_after_it_was_waited_for(self):
        rows = (("post", "t", 0, 0, "x"), ("wait", "t"), ("post", "t", 0, 1, "y"), ("wait", "t"))
        run = do_all(self.run_of(*rows), 1, (0, 0, 1, 0), 1, 1, 1)
        self.assertEqual(run.events(), [("meet", 0, 1, 1, 1)])
        do_all(run, (0, 1, 1, 1))
        self.assertEqual(run.boxes(1), {"x": 5, "y": 6})

    def test_two_tickets_and_a_box_called_like_one(self):
        rows = (("post", "t", 0, 0, "u"), ("post", "u", 0, 1, "t"), ("wait", "u"), ("wait", "t"))
        run = do_all(self.run_of(*rows), 1, 1, (0, 0, 1, 0), 1)
        self.assertEqual(run.events(), [("meet", 0, 1, 1, 1)])
        do_all(run, (0, 1, 1, 1))
        self.assertEqual(run.boxes(1), {"t": 6})
        do_all(run, 1)
        self.assertEqual(run.boxes(1), {"t": 6, "u": 5})

    def test_a_take_with_a_post_open_is_met_for_itself(self):
        run = do_all(self.run_of(("post", "t", 0, 0, "x"), ("take", 0, 1, "y"), ("tell", 1)), 1, 1, (0, 0, 1, 0))
        self.assertEqual(run.events(), [("meet", 0, 1, 1, 1)])
        self.assertEqual(run.boxes(1), {})
        do_all(run, (0, 1, 1, 1))
        self.assertEqual(run.boxes(1), {"y": 6})


class OwnRows(unittest.TestCase):
    def run_of(self, *rows):
        return Run((rows, ()))

    def test_tell(self):
        run = do_all(self.run_of(("tell", 7), ("tell", "a"), ("add", "a", -3, 0), ("tell", "a"), ("tell", 7)), 0)
        self.assertEqual(run.told(0), [7])
        do_all(run, 0, 0, 0, 0)
        self.assertEqual(run.told(0), [7, 0, -3, 7])
        self.assertEqual(run.told(1), [])
        self.assertEqual(run.end(), (((("a", -3),), (7, 0, -3, 7), (), 0), ((), (), (), 0)))

    def test_add(self):
        run = do_all(self.run_of(("add", "a", 1, 2), ("add", "b", "a", "a"), ("add", "a", "b", "c"), ("add", "b", "b", -6),
                                 ("add", "any", 10 ** 6, 10 ** 6), ("add", "any", "any", "any")), 0)
        self.assertEqual(run.boxes(0), {"a": 3})
        do_all(run, 0)
        self.assertEqual(run.boxes(0), {"a": 3, "b": 6})
        do_all(run, 0)
        self.assertEqual(run.boxes(0), {"a": 6, "b": 6})
        do_all(run, 0)
        self.assertEqual(run.boxes(0), {"a": 6})
        do_all(run, 0, 0)
        self.assertEqual(run.boxes(0), {"a": 6, "any": 4 * 10 ** 6})
        self.assertEqual(run.boxes(1), {})

    def test_boxes_of_an_end_rise(self):
        rows = tuple(("add", box, 1, 0) for box in ("z", "ab", "b", "a", "zz", "abc"))
        self.assertEqual(do_all(self.run_of(*rows), *[0] * 6).end()[0][0],
                         (("a", 1), ("ab", 1), ("abc", 1), ("b", 1), ("z", 1), ("zz", 1)))

    def test_case_both_ways(self):
        for value, told in ((3, [1, 2, 9]), (2, [4, 9]), (4, [4, 9]), (-3, [4, 9]), (0, [4, 9])):
            run = self.run_of(("add", "a", value, 0),
                              ("case", "a", 3, (("tell", 1), ("tell", 2)), (("tell", 4),)), ("tell", 9))
            do_all(run, 0, 0)
            self.assertEqual(run.told(0), [])
            do_all(run, *[0] * len(told))
            self.assertEqual(run.told(0), told)
            self.assertEqual(run.state(), "done")

    def test_case_of_an_empty_box_and_of_no_rows(self):
        run = do_all(self.run_of(("case", "a", 0, (), (("tell", 1),)), ("case", "a", 1, (("tell", 2),), ())), 0, 0)
        self.assertEqual(run.end(), (((), (), (), 0), ((), (), (), 0)))

    def test_cases_within_cases(self):
        rows = (("tell", 7),)
        for level in range(39):
            rows = (("case", "a", 0, rows, ()),)
        run = do_all(self.run_of(*rows), *[0] * 40)
        self.assertEqual(run.told(0), [7])
        self.assertEqual(run.state(), "done")

    def test_one_row_a_step(self):
        run = self.run_of(("case", "a", 0, (("tell", 1),), ()), ("tell", 2))
        for told in ([], [1], [1, 2]):
            self.assertEqual(run.events(), [("go", 0)])
            do_all(run, 0)
            self.assertEqual(run.told(0), told)
        self.assertEqual(run.events(), [])


class All(unittest.TestCase):
    def test_hands_wait_for_those_still_to_come(self):
        program = ((("all",), ("tell", 1)), (("tell", 2), ("all",), ("tell", 3)), (("all",), ("tell", 4)))
        run = do_all(Run(program), 0)
        self.assertEqual(run.events(), [("go", 1), ("go", 2)])
        do_all(run, 2)
        self.assertEqual(run.events(), [("go", 1)])
        do_all(run, 1)
        self.assertEqual(run.events(), [("go", 1)])
        do_all(run, 1)
        self.assertEqual(run.events(), [("go", 0), ("go", 1), ("go", 2)])

    def test_hands_that_have_ended_are_not_waited_for(self):
        run = do_all(Run(((("all",), ("tell", 1)), (), ())), 0)
        self.assertEqual(run.events(), [("go", 0)])
        run = do_all(Run(((("all",), ("tell", 1)), (("tell", 2),), ())), 1, 0)
        self.assertEqual(run.events(), [("go", 0)])

    def test_hands_pass_when_the_last_other_one_ends(self):
        for row in (("tell", 2), ("wait", "t"), ("case", "a", 0, (), ()), ("post", "t", 0, 0, "x"), ("add", "a", 1, 1)):
            run = do_all(Run(((("all",), ("tell", 1)), (row,), ())), 0)
            self.assertEqual(run.events(), [("go", 1)])
            do_all(run, 1)
            self.assertEqual(run.events(), [("go", 0)])

    def test_hands_pass_when_the_last_other_ones_end_by_a_meeting(self):
        run = Run(((("all",), ("tell", 1)), (("send", 2, 0, 5),), (("take", 1, 0, "x"),)))
        do_all(run, 0, 1, 2)
        self.assertEqual(run.events(), [("meet", 1, 0, 2, 0)])
        do_all(run, (1, 0, 2, 0))
        self.assertEqual(run.events(), [("go", 0)])

    def test_a_hand_that_waits_in_its_last_row_has_not_ended(self):
        for row in (("send", 0, 0, 5), ("take", 0, 0, "x")):
            run = do_all(Run(((("all",), ("tell", 1)), (row,))), 0, 1)
            self.assertEqual(run.events(), [])
            self.assertEqual(run.state(), "stuck")
            self.assertEqual([part[3] for part in run.end()], [2, 1])

    def test_a_hand_that_ended_with_things_let_go_has_ended(self):
        run = do_all(Run(((("all",), ("tell", 1)), (("send", 0, 0, 5), ("post", "t", 0, 0, "x"))), room=1), 0, 1, 1)
        self.assertEqual(run.events(), [("go", 0)])

    def test_one_all_behind_another(self):
        run = do_all(Run(((("all",), ("all",), ("tell", 1)), (("all",), ("all",), ("tell", 2)))), 0, 1)
        self.assertEqual(run.events(), [("go", 0), ("go", 1)])
        do_all(run, 1)
        self.assertEqual(run.events(), [("go", 0)])
        do_all(run, 0)
        self.assertEqual(run.events(), [("go", 0), ("go", 1)])

    def test_hands_of_which_one_has_more(self):
        run = do_all(Run(((("all",), ("all",)), (("all",),))), 0, 1)
        self.assertEqual(run.events(), [("go", 0)])
        do_all(run, 0)
        self.assertEqual(run.state(), "done")
        self.assertEqual(run.end(), (((), (), (), 0), ((), (), (), 0)))

    def test_posts_meet_while_hands_wait(self):
        run = Run(((("post", "t", 1, 0, "x"), ("all",), ("wait", "t")), (("send", 0, 0, 5), ("all",))), room=1)
        do_all(run, 0, 1, 0)
        self.assertEqual(run.events(), [("go", 1), ("meet", 1, 0, 0, 0)])
        do_all(run, (1, 0, 0, 0))
        self.assertEqual(run.events(), [("go", 1)])
        do_all(run, 1, 0)
        self.assertEqual(run.boxes(0), {"x": 5})


if __name__ == "__main__":
    unittest.main()
