import random
import unittest

from tests.model import Model
from tests.samples import OTHER_THINGS, ROOMS, do_all, random_program
from wildtakes.errors import NoEvent, NotEnded
from wildtakes.runs import Run


def standing(run, hands):
    """All that a run tells of itself."""
    pairs = [(one, other) for one in range(hands) for other in range(hands) if one != other]
    return (
        run.events(), run.state(),
        [run.boxes(hand) for hand in range(hands)],
        [run.open_takes(hand) for hand in range(hands)],
        [run.on_way(one, other) for one, other in pairs],
    )


class WhatBars(unittest.TestCase):
    def events_of(self, sends, takes):
        """The meetings that can be when hand 0 has done these sends and hand 1 these takes, all posts but the last."""
        run = Run((sends, takes), room=None)
        do_all(run, *[0] * len(sends), *[1] * len(takes))
        return run.events()

    def test_a_thing_sent_ahead_that_fits(self):
        sends = (("send", 1, 0, 5), ("send", 1, 0, 6))
        self.assertEqual(self.events_of(sends, (("take", 0, 0, "x"),)), [("meet", 0, 0, 1, 0)])
        self.assertEqual(self.events_of(sends, (("take", None, None, "x"),)), [("meet", 0, 0, 1, 0)])

    def test_a_thing_sent_ahead_that_does_not_fit(self):
        sends = (("send", 1, 0, 5), ("send", 1, 1, 6), ("send", 1, 1, 7))
        self.assertEqual(self.events_of(sends, (("take", 0, 1, "x"),)), [("meet", 0, 1, 1, 0)])
        self.assertEqual(self.events_of(sends, (("take", None, 1, "x"),)), [("meet", 0, 1, 1, 0)])

    def test_a_thing_sent_ahead_that_has_met(self):
        run = Run(((("send", 1, 0, 5), ("send", 1, 0, 6)), (("take", 0, 0, "x"), ("take", 0, 0, "y"))), room=None)
        do_all(run, 0, 0, 1, (0, 0, 1, 0), 1)
        self.assertEqual(run.events(), [("meet", 0, 1, 1, 1)])

    def test_a_thing_sent_ahead_that_another_take_would_meet_bars_still(self):
        sends = (("send", 1, 0, 5), ("send", 1, 0, 6))
        self.assertEqual(self.events_of(sends, (("post", "t", 0, 0, "x"), ("take", 0, 0, "y"))), [("meet", 0, 0, 1, 0)])

    def test_a_take_posted_ahead_that_fits(self):
        sends = (("send", 1, 0, 5),)
        for whence in (0, None):
            for mark in (0, None):
                takes = (("post", "t", whence, mark, "x"), ("take", 0, 0, "y"))
                self.assertEqual(self.events_of(sends, takes), [("meet", 0, 0, 1, 0)])

    def test_a_take_posted_ahead_that_does_not_fit(self):
        sends = (("send", 1, 0, 5),)
        takes = (("post", "t", 0, 1, "x"), ("post", "t", None, 2, "x"), ("take", 0, None, "y"))
        self.assertEqual(self.events_of(sends, takes), [("meet", 0, 0, 1, 2)])

    def test_a_take_posted_ahead_from_another_hand(self):
        run = Run(((("send", 1, 0, 5),), (("post", "t", 2, 0, "x"), ("take", 0, 0, "y")), ()), room=None)
        self.assertEqual(do_all(run, 0, 1, 1).events(), [("meet", 0, 0, 1, 1)])

    def test_a_take_posted_ahead_that_lost_its_ticket_bars_still(self):
        sends = (("send", 1, 0, 5),)
        takes = (("post", "t", 0, 0, "x"), ("post", "t", 0, 0, "y"), ("wait", "t"))
        self.assertEqual(self.events_of(sends, takes), [("meet", 0, 0, 1, 0)])

    def test_a_take_posted_ahead_that_has_met(self):
        run = Run(((("send", 1, 0, 5), ("send", 1, 0, 6)), (("post", "t", 0, 0, "x"), ("take", 0, 0, "y"))), room=None)
        do_all(run, 0, 0, 1, 1)
        self.assertEqual(run.events(), [("meet", 0, 0, 1, 0)])
        do_all(run, (0, 0, 1, 0))
        self.assertEqual(run.events(), [("meet", 0, 1, 1, 1)])

    def test_whence_and_mark(self):
        for mark, whence, would, fits in (
            (0, 0, 0, True), (0, 0, None, True), (0, None, 0, True), (0, None, None, True), (9, None, 9, True),
            (0, 0, 1, False), (1, 0, 0, False), (0, None, 1, False), (0, 2, 0, False), (0, 2, None, False),
            (2, 2, 2, False), (2, 0, 2, True),
        ):
            run = do_all(Run(((("send", 1, mark, 5),), (("take", whence, would, "x"),), ())), 0, 1)
            self.assertEqual(run.events(), [("meet", 0, 0, 1, 0)] if fits else [])

    def test_a_thing_goes_to_its_taker_alone(self):
        run = do_all(Run(((("send", 1, 0, 5),), (), (("take", 0, 0, "x"),))), 0, 2)
        self.assertEqual(run.events(), [])

    def test_no_order_between_things_of_two_hands(self):
        run = Run(((("send", 2, 0, 5),), (("send", 2, 0, 6),), (("take", None, 0, "x"), ("take", None, 0, "y"))))
        do_all(run, 0, 1, 2)
        self.assertEqual(run.events(), [("meet", 0, 0, 2, 0), ("meet", 1, 0, 2, 0)])
        do_all(run, (1, 0, 2, 0))
        self.assertEqual(run.events(), [("go", 2)])
        do_all(run, 2, (0, 0, 2, 1))
        self.assertEqual(run.end()[2], ((("x", 6), ("y", 5)), (), ((0, 1, 0), (1, 0, 0)), 0))

    def test_a_thing_that_waits_for_room_can_meet(self):
        run = do_all(Run(((("send", 1, 0, 5), ("send", 1, 1, 6)), (("take", 0, 1, "x"),)), room=1), 0, 0, 1)
        self.assertEqual(run.events(), [("meet", 0, 1, 1, 0)])


class WholeRuns(unittest.TestCase):
    PROGRAM = (
        (("send", 2, 0, 1), ("send", 2, 1, 2)),
        (("send", 2, 0, 3), ("all",)),
        (("post", "t", None, 0, "x"), ("take", None, None, "y"), ("wait", "t"), ("tell", "x"), ("tell", "y")),
    )

    def test_events_at_each_moment(self):
        run = Run(self.PROGRAM, room=1)
        for event, events in (
            (("go", 2), [("go", 0), ("go", 1), ("go", 2)]),
            (("go", 1), [("go", 0), ("go", 1), ("go", 2)]),
            (("go", 0), [("go", 0), ("go", 1), ("go", 2), ("meet", 1, 0, 2, 0)]),
            (("go", 2), [("go", 0), ("go", 1), ("go", 2), ("meet", 0, 0, 2, 0), ("meet", 1, 0, 2, 0)]),
            (("go", 0), [("go", 0), ("go", 1), ("meet", 0, 0, 2, 0), ("meet", 1, 0, 2, 0)]),
            (("go", 1), [("go", 1), ("meet", 0, 0, 2, 0), ("meet", 1, 0, 2, 0)]),
            # The thing of mark 1 fits the second take alone, but the one sent ahead of it fits that, too.
            (("meet", 1, 0, 2, 0), [("meet", 0, 0, 2, 0), ("meet", 1, 0, 2, 0)]),
            (("meet", 0, 0, 2, 1), [("meet", 0, 0, 2, 1)]),
            (("go", 2), [("go", 2)]),
            (("go", 2), [("go", 2)]),
            (("go", 2), [("go", 2)]),
        ):
            self.assertEqual(run.events(), events)
            self.assertEqual(run.state(), "going")
            with self.assertRaises(NotEnded):
                run.end()
            run.do(event)
        self.assertEqual(run.events(), [])
        self.assertEqual(run.state(), "done")
        self.assertEqual(len(run), 11)
        self.assertEqual(run.on_way(0, 2), [(1, 1, 2)])
        self.assertEqual(run.end(), (
            ((), (), (), 0), ((), (), (), 0), ((("x", 3), ("y", 1)), (3, 1), ((0, 1, 0), (1, 0, 0)), 0)))

    def test_the_same_program_stuck(self):
        run = Run(self.PROGRAM)
        do_all(run, 0, 1, 2, (1, 0, 2, 0), 2, (0, 0, 2, 1), 0, 2, 1)
        self.assertEqual(run.events(), [("go", 2)])
        do_all(run, 2, 2)
        self.assertEqual(run.state(), "stuck")
        self.assertEqual(run.end(), (
            ((), (), (), 1), ((), (), (), 1), ((("x", 3), ("y", 1)), (3, 1), ((0, 1, 0), (1, 0, 0)), 0)))

    def test_events_rise_by_numbers_not_by_texts(self):
        sends = tuple(("send", 1, 0, 1) for send in range(12))
        posts = tuple(("post", "t", 0, 0, "x") for post in range(12))
        run = do_all(Run((sends, posts), room=None), *[0] * 12, *[1] * 12)
        for number in range(12):
            self.assertEqual(run.events(), [("meet", 0, number, 1, number)])
            self.assertEqual(run.open_takes(1), list(range(number, 12)))
            do_all(run, (0, number, 1, number))
        self.assertEqual(run.end()[1][2], tuple((number, 0, number) for number in range(12)))

    def test_many_meetings_at_once_rise(self):
        program = ((("send", 2, 5, 1), ("send", 2, 4, 2)), (("send", 2, 3, 3), ("send", 0, 2, 4)),
                   (("post", "t", 1, 3, "a"), ("post", "t", 0, 4, "b"), ("post", "t", 0, 5, "c")))
        run = do_all(Run(program, room=None), 0, 0, 1, 1, 2, 2, 2)
        self.assertEqual(run.events(), [("meet", 0, 0, 2, 2), ("meet", 0, 1, 2, 1), ("meet", 1, 0, 2, 0)])
        do_all(run, (0, 0, 2, 2), (1, 0, 2, 0), (0, 1, 2, 1))
        self.assertEqual(run.end()[2], ((), (), ((0, 1, 0), (1, 0, 1), (2, 0, 0)), 0))

    def test_left_counts_rows_as_they_stand(self):
        two = (("tell", 1), ("tell", 2))
        rows = (("take", 1, 0, "x"), ("tell", 1), ("case", "a", 0, two, two))
        self.assertEqual(do_all(Run((rows, ())), 0).end()[0][3], 3)
        rows = (("case", "a", 0, (("take", 1, 0, "x"),) + two, ()), ("tell", 1))
        self.assertEqual(do_all(Run((rows, ())), 0, 0).end()[0][3], 4)

    def test_left_of_a_hand_that_waits(self):
        for row in (("send", 1, 0, 5), ("take", 1, 0, "x"), ("all",)):
            run = do_all(Run(((row,), (("take", 0, 1, "x"), ("tell", 1), ("tell", 2)))), 0, 1)
            self.assertEqual([part[3] for part in run.end()], [1, 3])
        run = do_all(Run(((("post", "t", 1, 0, "x"), ("wait", "t"), ("tell", 1)), ())), 0, 0)
        self.assertEqual(run.end(), (((), (), (), 2), ((), (), (), 0)))

    def test_ended_at_once(self):
        run = Run(((), ()))
        self.assertEqual((run.events(), run.state(), len(run)), ([], "done", 0))
        self.assertEqual(run.end(), (((), (), (), 0), ((), (), (), 0)))

    def test_things_and_takes_that_can_still_meet_keep_a_run_going(self):
        run = do_all(Run(((("send", 1, 0, 5),), (("post", "t", 0, 0, "x"),)), room=1), 0, 1)
        self.assertEqual(run.events(), [("meet", 0, 0, 1, 0)])
        self.assertEqual(run.state(), "going")
        do_all(run, (0, 0, 1, 0))
        self.assertEqual(run.state(), "done")

    def test_things_on_their_way_and_open_takes_do_not_make_a_run_stuck(self):
        run = do_all(Run(((("send", 1, 0, 5),), (("post", "t", 0, 1, "x"),)), room=1), 0, 1)
        self.assertEqual(run.state(), "done")
        self.assertEqual(run.on_way(0, 1), [(0, 0, 5)])
        self.assertEqual(run.open_takes(1), [0])

    def test_do_tells_nothing_and_len_counts(self):
        run = Run(((("send", 1, 0, 5),), (("take", 0, 0, "x"),)))
        for many, event in enumerate((("go", 0), ("go", 1), ("meet", 0, 0, 1, 0))):
            self.assertEqual(len(run), many)
            self.assertIsNone(run.do(event))
        self.assertEqual(len(run), 3)


class NoEvents(unittest.TestCase):
    def assert_refused(self, run, *events):
        before = standing(run, 3), len(run)
        for event in events:
            with self.assertRaises(NoEvent, msg=repr(event)):
                run.do(event)
            self.assertEqual((standing(run, 3), len(run)), before)

    def test_steps_of_hands_that_can_not_go(self):
        run = Run(((("tell", 1),), (("tell", 1),), ()))
        self.assert_refused(run, ("go", 2), ("go", 3), ("go", -1), ("meet", 0, 0, 1, 0))
        do_all(run, 0)
        self.assert_refused(run, ("go", 0), ("go", 2))
        run = do_all(Run(((("take", 1, 0, "x"),), (("send", 0, 1, 5),), (("all",),))), 0, 1, 2)
        self.assert_refused(run, ("go", 0), ("go", 1), ("go", 2), ("meet", 1, 0, 0, 0))

    def test_meetings_that_can_not_be(self):
        program = ((("send", 1, 0, 5), ("send", 1, 0, 6)), (("post", "t", 0, 0, "x"), ("take", None, None, "y")),
                   (("send", 1, 0, 7),))
        run = do_all(Run(program, room=None), 0, 0, 1, 1)
        self.assertEqual(run.events(), [("go", 2), ("meet", 0, 0, 1, 0)])
        self.assert_refused(run, ("meet", 0, 0, 1, 1), ("meet", 0, 1, 1, 0), ("meet", 0, 1, 1, 1), ("meet", 2, 0, 1, 0),
                            ("meet", 1, 0, 0, 0), ("meet", 0, 0, 2, 0), ("meet", 0, 0, 1), ("meet", 0, 0, 1, 0, 0),
                            ("meet",), (0, 0, 1, 0), ("meet", (0, 0, 1, 0)), ("go", 0, 0, 1, 0), ("meet", 2))
        do_all(run, (0, 0, 1, 0))
        self.assert_refused(run, ("meet", 0, 0, 1, 0), ("meet", 0, 1, 1, 0))
        self.assertEqual(run.events(), [("go", 2), ("meet", 0, 1, 1, 1)])

    def test_other_things(self):
        run = Run(((("tell", 1),), (("tell", 1),), ()))
        self.assert_refused(run, *OTHER_THINGS)
        self.assert_refused(run, "go 0", ["go", 0], ("go",), ("go", "0"), ("go", None), ("go", 0, 0), ("go", [0]), ("go", {}),
                            ("Go", 0), (0, "go"), ("go", (0,)), [("go", 0)], (("go", 0),), {"go": 0}, ("send", 1, 0, 1))

    def test_truths_are_no_numbers(self):
        run = Run(((("send", 1, 0, 1),), (("take", 0, 0, "x"),), ()))
        self.assert_refused(run, ("go", False), ("go", True))
        do_all(run, 0, 1)
        self.assert_refused(run, ("meet", False, 0, 1, 0), ("meet", 0, False, 1, 0), ("meet", 0, 0, True, 0),
                            ("meet", 0, 0, 1, False))
        self.assertEqual(run.events(), [("meet", 0, 0, 1, 0)])

    def test_when_a_run_has_ended(self):
        run = do_all(Run(((("tell", 1),), (), ())), 0)
        self.assert_refused(run, ("go", 0), ("go", 1), (), None)


class AsTheDocumentSays(unittest.TestCase):
    def test_runs_at_random_go_as_the_model_does(self):
        seen = {"done": 0, "stuck": 0}
        for seed in range(700):
            program = random_program(seed, seed % 2 == 0)
            room = ROOMS[seed % len(ROOMS)]
            chance = random.Random(seed)
            run, model = Run(program, room=room), Model(program, room)
            hands = len(program)
            self.assertEqual(standing(run, hands), standing(model, hands))
            while model.events():
                event = chance.choice(model.events())
                run.do(event)
                model.do(event)
                self.assertEqual(standing(run, hands), standing(model, hands), (program, room))
                self.assertEqual([run.told(hand) for hand in range(hands)], model.said)
            self.assertEqual(run.end(), model.end(), (program, room))
            seen[run.state()] += 1
        self.assertGreater(min(seen.values()), 100)


if __name__ == "__main__":
    unittest.main()
