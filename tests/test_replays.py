import random
import unittest

from tests.model import played
from tests.samples import OTHER_THINGS, ROOMS, random_program, random_wild_program, run_through
from wildtakes.ends import ends
from wildtakes.errors import BadMeetings, BadOrder, BadProgram, BadRoom
from wildtakes.programs import read_program, wild_takes
from wildtakes.replays import play, told_meetings

PROGRAM = read_program("take any 0 x; take 1 1 y; take any any z\nsend 0 0 5; send 0 1 6; send 0 0 7\nsend 0 0 8\n")

# No run of any program has these.
NEVER = [(0, 0, 0, 0), (9, 9, 9, 9), (0, 99, 1, 0), (1, 0, 0, 99), (9, 0, 1, 0), (0, 0, 9, 0), (10 ** 14, 0, 1, 0),
         (0, 10 ** 14, 1, 0), (0, 0, 10 ** 14, 0), (0, 0, 1, 10 ** 14)]

BELOW_0 = [(-1, 0, 1, 0), (0, -1, 1, 0), (0, 0, -1, 0), (0, 0, 1, -1), (-10 ** 14, 0, 1, 0), (0, -10 ** 14, 1, 0),
           (0, 0, -10 ** 14, 0), (0, 0, 1, -10 ** 14), (-1, -1, -1, -1), (9, 9, 9, -9)]

NO_MEETINGS = (
    None, True, False, 0, 1, "", "ab", (), ((1, 0, 0, 0),), {}, {(1, 0, 0, 0): True}, [None], [True], [0], ["abcd"], [[]],
    [()], [{}], [[1, 0, 0, 0]], [(1, 0, 0)], [(1, 0, 0, 0, 0)], [(1,)], [(True, 0, 0, 0)], [(1, False, 0, 0)],
    [(1, 0, False, 0)], [(1, 0, 0, False)], [(1, 0, 0, None)], [("1", 0, 0, 0)], [(1, 0, 0, "0")], [(1, 0, 0, (0,))],
    [(1, 0, 0, [0])], [(1, 0, 0, {})], [("meet", 1, 0, 0, 0)], [(1, 0, 0, 0), None], [(1, 0, 0, 0), (1, 0, 0)],
    [(1, 0, 0, 0), [1, 0, 0, 0]], [((1, 0, 0, 0),)], [[(1, 0, 0, 0)]], [{1: 0, 2: 0, 3: 0, 4: 0}],
)

NO_ORDERS = (
    None, True, False, 0, 1, "", "01", [], [0], {}, {0: 0}, (-1,), (0, -1), (-10 ** 14,), (True,), (0, False), (None,),
    ("0",), ((),), ((0,),), ([0],), ({},), (0, 1, None),
)

NO_ROOMS = (-1, 100, True, False, "0", [], (), {}, 10 ** 14)


def random_order(chance):
    return tuple(chance.choice((0, 1, 2, chance.randrange(10), chance.randrange(10 ** 15)))
                 for number in range(chance.choice((0, 1, 5, 20, 60, 200))))


class ToldMeetings(unittest.TestCase):
    def test_none(self):
        self.assertEqual(told_meetings((((), (), (), 0), ((), (), (), 0))), [])

    def test_they_rise(self):
        end = (((), (), ((0, 2, 1), (1, 1, 0), (11, 1, 2)), 0), ((), (), ((0, 0, 10), (1, 0, 9)), 0), ((), (), (), 3))
        told = told_meetings(end)
        self.assertIs(type(told), list)
        self.assertEqual(told, [(0, 9, 1, 1), (0, 10, 1, 0), (1, 0, 0, 1), (1, 2, 0, 11), (2, 1, 0, 0)])

    def test_of_ends_done_and_stuck(self):
        for text, state, told in (
            ("take any 0 x; take 1 0 y\nsend 0 0 5\nsend 0 0 6\n", "stuck", [(1, 0, 0, 0)]),
            ("take 2 0 x; take 1 0 y\nsend 0 0 5\nsend 0 0 6\n", "done", [(1, 0, 0, 1), (2, 0, 0, 0)]),
        ):
            run = run_through(read_program(text), 0, lambda events: events[0])
            self.assertEqual(run.state(), state)
            self.assertEqual(told_meetings(run.end()), told)

    def test_all_that_a_run_did(self):
        for seed in range(200):
            program = random_wild_program(seed)
            done = []
            chance = random.Random(seed)

            def choose(events):
                done.append(chance.choice(events))
                return done[-1]

            end = run_through(program, ROOMS[seed % 5], choose).end()
            self.assertEqual(told_meetings(end), sorted(event[1:] for event in done if event[0] == "meet"))


class EndsComeAgain(unittest.TestCase):
    def programs(self):
        for seed in range(60):
            yield random_wild_program(seed)
        for seed in range(400, 430):
            program = random_program(seed, True)
            if wild_takes(program) <= 6:
                yield program

    def test_by_any_order(self):
        for seed, program in enumerate(self.programs()):
            chance = random.Random(seed)
            for room in ROOMS:
                for end in ends(program, room=room):
                    told = told_meetings(end)
                    self.assertEqual(play(program, told, room=room), end)
                    chance.shuffle(told)
                    self.assertEqual(play(program, told, room=room, order=random_order(chance)), end)
                    told = (told + NEVER) * 2
                    chance.shuffle(told)
                    self.assertEqual(play(program, told, room=room, order=random_order(chance)), end)

    def test_meetings_of_takes_that_are_not_wild_need_not_be_listed(self):
        for room in ROOMS[2:]:
            for end in ends(PROGRAM, room=room):
                wild = [meeting for meeting in told_meetings(end) if meeting[2:] in ((0, 0), (0, 2))]
                self.assertEqual(play(PROGRAM, wild, room=room), end)
                self.assertEqual(play(PROGRAM, wild + [(2, 0, 0, 1), (1, 2, 0, 1)], room=room), end)

    def test_great_ones(self):
        takes = (("take", None, None, "x"), ("tell", "x")) * 6
        program = (takes,) + tuple(tuple(("send", 0, 0, 10 * hand + number) for number in range(7)) for hand in range(4))
        chance = random.Random(2)
        for room in ROOMS:
            found = ends(program, room=room)
            self.assertEqual(len(found), 4 ** 6)
            for end in chance.sample(found, 40):
                self.assertEqual(play(program, told_meetings(end), room=room, order=random_order(chance)), end)


class LeftOut(unittest.TestCase):
    def test_none_listed(self):
        self.assertEqual(play(PROGRAM, [], room=3), (((), (), (), 3), ((), (), (), 0), ((), (), (), 0)))
        self.assertEqual(play(PROGRAM, []), (((), (), (), 3), ((), (), (), 3), ((), (), (), 1)))

    def test_some_listed(self):
        self.assertEqual(play(PROGRAM, [(2, 0, 0, 0)], room=3),
                         (((("x", 8), ("y", 6)), (), ((0, 2, 0), (1, 1, 1)), 1), ((), (), (), 0), ((), (), (), 0)))
        self.assertEqual(play(PROGRAM, [(1, 2, 0, 2), (1, 0, 0, 0)], room=3),
                         (((("x", 5), ("y", 6), ("z", 7)), (), ((0, 1, 0), (1, 1, 1), (2, 1, 2)), 0),
                          ((), (), (), 0), ((), (), (), 0)))

    def test_a_wild_take_that_may_not_meet_still_bars_those_behind_it(self):
        program = read_program("post p any 0 x; take 1 0 y; tell y\nsend 0 0 5; send 0 0 6\nsend 0 0 7\n")
        self.assertEqual(play(program, [], room=2)[0], ((), (), (), 2))
        self.assertEqual(play(program, [(1, 0, 0, 1)], room=2)[0], ((), (), (), 2))
        self.assertEqual(play(program, [(1, 1, 0, 0)], room=2)[0], ((), (), (), 2))
        self.assertEqual(play(program, [(2, 0, 0, 0)], room=2)[0], ((("y", 5),), (5,), ((0, 2, 0), (1, 1, 0)), 0))
        self.assertEqual(play(program, [(1, 0, 0, 0)], room=2)[0], ((("y", 6),), (6,), ((0, 1, 0), (1, 1, 1)), 0))

    def test_several_listed_that_can_be(self):
        program = read_program("send 2 0 5\nsend 2 0 6\ntake any 0 x\n")
        both = [(1, 0, 2, 0), (0, 0, 2, 0)]
        self.assertEqual(play(program, both, order=(0, 0, 0, 0))[2][0], (("x", 5),))
        self.assertEqual(play(program, both, order=(0, 0, 0, 1))[2][0], (("x", 6),))
        self.assertEqual(play(program, both)[2][0], (("x", 5),))
        self.assertEqual(play(program, both[:1], order=(0, 0, 0, 0))[2][0], (("x", 6),))

    def test_as_the_model_plays(self):
        left = 0
        for seed in range(300):
            program = random_wild_program(seed) if seed % 3 else random_program(seed, True)
            chance = random.Random(seed)
            room = ROOMS[seed % len(ROOMS)]
            told = told_meetings(run_through(program, room, chance.choice).end())
            others = told_meetings(run_through(program, room, chance.choice).end())
            for meetings in ([], told[1:], told[:-1], told[::2], told + others, chance.sample(told, len(told) // 2) + NEVER):
                order = random_order(chance)
                end = play(program, meetings, room=room, order=order)
                self.assertEqual(end, played(program, meetings, room, order))
                left += len(end[0][2]) > 0 and any(part[3] for part in end)
        self.assertGreater(left, 30)


class Orders(unittest.TestCase):
    """A wild take for which two meetings are listed: which one comes is for the order to say."""

    PROGRAM = read_program("send 2 0 1\nsend 2 0 2\ntake any 0 x; tell x\n")
    BOTH = [(0, 0, 2, 0), (1, 0, 2, 0)]

    def check(self, order, value):
        self.assertEqual(play(self.PROGRAM, self.BOTH, room=1, order=order)[2][1], (value,))
        self.assertEqual(played(self.PROGRAM, self.BOTH, 1, order)[2][1], (value,))

    def test_the_first_event_if_none_is_told(self):
        self.check((), 1)
        self.assertEqual(play(self.PROGRAM, self.BOTH, room=1), play(self.PROGRAM, self.BOTH, room=1, order=()))

    def test_places_in_the_list_of_events(self):
        self.check((0, 0, 0), 1)
        self.check((0, 0, 0, 0), 1)
        self.check((0, 0, 0, 1), 2)
        self.check((1, 1, 1), 2)
        self.check((2, 0, 1), 1)
        self.check((2, 1, 1), 2)

    def test_the_rest_by_how_many_there_are(self):
        self.check((0, 0, 0, 2), 1)
        self.check((0, 0, 0, 3), 2)
        self.check((3, 2, 1, 10 ** 14), 1)
        self.check((3, 2, 1, 10 ** 14 + 1), 2)
        self.check((3 * 10 ** 13 + 2, 3, 999999999999999), 2)

    def test_longer_than_the_run(self):
        self.check((0,) * 500, 1)
        self.check((0, 0, 0, 1) + (7,) * 500, 2)

    def test_only_events_that_may_be_are_counted(self):
        program = read_program("send 2 0 1\nsend 2 0 2\ntake any 0 x; tell x\ntell 1\n")
        for order in ((2, 1, 1, 1, 1), (2, 1, 1, 10 ** 14 + 1)):
            self.assertEqual(play(program, [(1, 0, 2, 0)], room=1, order=order)[2][1], (2,))
            self.assertEqual(play(program, [(1, 0, 2, 0)], room=1, order=order),
                             played(program, [(1, 0, 2, 0)], 1, order))

    def test_all_orders_of_some_length(self):
        for number in range(4 ** 5):
            order = tuple(number // 4 ** place % 4 for place in range(5))
            self.assertEqual(play(self.PROGRAM, self.BOTH, room=1, order=order),
                             played(self.PROGRAM, self.BOTH, 1, order))


class Refusals(unittest.TestCase):
    def test_no_meetings(self):
        for meetings in NO_MEETINGS:
            with self.assertRaises(BadMeetings, msg=repr(meetings)):
                play(PROGRAM, meetings)

    def test_meetings_with_a_number_below_0(self):
        for meeting in BELOW_0:
            for meetings in ([meeting], [(2, 0, 0, 0), meeting], [meeting, (2, 0, 0, 0)]):
                for room, order in ((0, ()), (None, ()), (-1, ()), ("x", ()), (0, (-1,)), (0, None), (100, [])):
                    with self.assertRaises(BadMeetings, msg=repr(meetings)):
                        play(PROGRAM, meetings, room=room, order=order)
                with self.assertRaises(BadMeetings, msg=repr(meetings)):
                    play(((), ()), meetings)
                with self.assertRaises(BadProgram, msg=repr(meetings)):
                    play(((),), meetings)

    def test_meetings_that_can_not_be_are_not_refused(self):
        for meeting in NEVER:
            self.assertEqual(play(PROGRAM, [meeting, meeting]), play(PROGRAM, []))

    def test_no_orders(self):
        for order in NO_ORDERS:
            with self.assertRaises(BadOrder, msg=repr(order)):
                play(PROGRAM, [], order=order)

    def test_an_order_is_refused_for_what_lies_behind_the_run_too(self):
        for number in (-1, True, None):
            with self.assertRaises(BadOrder):
                play(((), ()), [], order=(0,) * 100 + (number,))

    def test_no_rooms(self):
        for room in NO_ROOMS:
            with self.assertRaises(BadRoom, msg=repr(room)):
                play(PROGRAM, [], room=room)

    def test_no_programs(self):
        for thing in OTHER_THINGS:
            with self.assertRaises(BadProgram):
                play(thing, [])

    def test_the_first_named_is_raised(self):
        for program, meetings, room, order, refusal in (
            (None, None, -1, None, BadProgram), ((), [None], 0, (-1,), BadProgram), (((),), [], True, (), BadProgram),
            (PROGRAM, None, -1, None, BadMeetings), (PROGRAM, [()], 0, None, BadMeetings), (PROGRAM, (), 100, (), BadMeetings),
            (PROGRAM, [], -1, None, BadRoom), (PROGRAM, [], "0", (-1,), BadRoom), (PROGRAM, [], 0, None, BadOrder),
        ):
            with self.assertRaises(refusal):
                play(program, meetings, room=room, order=order)
            with self.assertRaises(refusal):
                play(program, meetings, order=order, room=room)

    def test_room_and_order_are_handed_in_by_name(self):
        with self.assertRaises(TypeError):
            play(PROGRAM, [], 0)

    def test_many_wild_takes_are_played_too(self):
        program = ((("take", None, 0, "x"),) * 10, (("send", 0, 0, 7),) * 10)
        meetings = [(1, number, 0, number) for number in range(10)]
        self.assertEqual([part[3] for part in play(program, meetings)], [0, 0])
        self.assertEqual([part[3] for part in play(program, meetings[:8])], [2, 2])


class Unchanged(unittest.TestCase):
    def test_what_is_handed_in_is_as_it_was(self):
        meetings, order = [(2, 0, 0, 0), (1, 2, 0, 2), (9, 9, 9, 9), (2, 0, 0, 0)], (5, 4, 3)
        end = play(PROGRAM, meetings, room=3, order=order)
        self.assertEqual(meetings, [(2, 0, 0, 0), (1, 2, 0, 2), (9, 9, 9, 9), (2, 0, 0, 0)])
        self.assertEqual(order, (5, 4, 3))
        meetings.clear()
        self.assertEqual(play(PROGRAM, [(2, 0, 0, 0), (1, 2, 0, 2)], room=3), end)

    def test_ends_are_as_they_were_and_lists_are_new(self):
        end = play(PROGRAM, [(2, 0, 0, 0)], room=3)
        hash(end)
        told = told_meetings(end)
        told.clear()
        self.assertEqual(told_meetings(end), [(1, 1, 0, 1), (2, 0, 0, 0)])


if __name__ == "__main__":
    unittest.main()
