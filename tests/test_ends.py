import itertools
import random
import unittest

from tests.model import every_order
from tests.samples import OTHER_THINGS, ROOMS, random_program, random_wild_program, run_through
from wildtakes.ends import can_stick, ends, partners
from wildtakes.errors import BadProgram, BadRoom, TooMany
from wildtakes.programs import is_program, read_program, wild_takes
from wildtakes.replays import told_meetings

NO_ROOMS = (-1, 100, True, False, "0", [], (), {}, 10 ** 14)
ASKS = (ends, partners, can_stick)


def sends_to(taker, many, mark=0, first=1):
    return tuple(("send", taker, mark, first + number) for number in range(many))


def gathered(*counts):
    """A program whose first hand takes wildly, 6 times, and tells what the others send, as many each as is said."""
    takes = (("take", None, None, "x"), ("tell", "x")) * 6
    return (takes,) + tuple(sends_to(0, many, first=10 * hand) for hand, many in enumerate(counts))


def orders_of(*counts):
    """Whose things can be the first 6 taken (all, if there are fewer), of hands that send as many each."""
    return {order for order in itertools.product(range(len(counts)), repeat=min(6, sum(counts)))
            if all(order.count(hand) <= many for hand, many in enumerate(counts))}


def told_orders(found):
    """Which of the other hands sent each thing that the first hand told."""
    return {tuple(value // 10 for value in end[0][1]) for end in found}


def with_wild(many):
    """A program with as many wild takes, half of them posts, some within cases."""
    rows = (("take", None, 0, "x"), ("post", "t", None, None, "x"), ("case", "x", 0, (("take", None, 1, "y"),), ()),
            ("case", "x", 1, (), (("case", "x", 1, (("post", "t", None, 1, "y"),), ()),)))
    return (rows[:2] * 2 + (rows[2], rows[3]) * 2)[:many], ()


class EveryOrder(unittest.TestCase):
    """Held against every order of events, gone through one by one."""

    def check(self, program, room, most):
        """How many ends there are, and of how many kinds; 0 of both if there are too many standings."""
        gone_through = every_order(program, room, most)
        if gone_through is None:
            return 0, 0
        states, meetings = gone_through
        met = {}
        for sender, send, taker, take in sorted(meetings):
            met.setdefault((taker, take), []).append((sender, send))
        self.assertEqual(ends(program, room=room), sorted(states, key=str), (program, room))
        self.assertEqual(partners(program, room=room), met, (program, room))
        self.assertIs(can_stick(program, room=room), "stuck" in states.values(), (program, room))
        return len(states), len(set(states.values()))

    def check_all(self, programs, most):
        """That enough of the programs have several ends, and both done and stuck ones, each program with each room."""
        several = both = 0
        for program in programs:
            if wild_takes(program) <= 6:
                for room in ROOMS:
                    many, kinds = self.check(program, room, most)
                    several += many > 1
                    both += kinds > 1
        return several, both

    def test_programs_with_wild_takes_among_others(self):
        several, both = self.check_all([random_program(seed, True) for seed in range(400, 520)], 300)
        self.assertGreater(several, 20)
        self.assertGreater(both, 3)

    def test_programs_with_many_wild_takes(self):
        several, both = self.check_all([random_wild_program(seed) for seed in range(150)], 2000)
        self.assertGreater(several, 300)
        self.assertGreater(both, 20)

    def test_programs_without_wild_takes(self):
        self.assertEqual(self.check_all([random_program(seed, False) for seed in range(80)], 500), (0, 0))

    def test_five_hands_that_take_from_any(self):
        hands = range(5)
        program = tuple((("post", "t", None, 0, "x"), ("send", (hand + 1) % 5, 0, hand + 1)) for hand in hands)
        self.assertEqual(self.check(program, None, 10 ** 5), (1, 1))
        program = ((("take", None, None, "x"), ("take", None, None, "y")),) + (sends_to(0, 1),) * 4
        for room in ROOMS:
            self.assertEqual(self.check(program, room, 10 ** 5)[0], 12)

    def test_two_takers_that_wait_for_what_the_other_one_left(self):
        program = read_program("take any 0 x; send 1 1 x; take any 0 y\ntake any any x; take any any y\n"
                               "send 0 0 5; send 1 0 6\nsend 1 0 7; send 0 0 8\n")
        self.assertEqual([self.check(program, room, 10 ** 5) for room in ROOMS], [(7, 1)] + [(12, 1)] * 4)


class Ends(unittest.TestCase):
    def test_one_wild_take(self):
        program = read_program("send 2 0 5\nsend 2 0 6\ntake any 0 x; tell x\n")
        nothing = ((), (), (), 0)
        self.assertEqual(ends(program, room=1), [
            (nothing, nothing, ((("x", 5),), (5,), ((0, 0, 0),), 0)),
            (nothing, nothing, ((("x", 6),), (6,), ((0, 1, 0),), 0)),
        ])
        waiting = ((), (), (), 1)
        self.assertEqual(ends(program), [
            (nothing, waiting, ((("x", 5),), (5,), ((0, 0, 0),), 0)),
            (waiting, nothing, ((("x", 6),), (6,), ((0, 1, 0),), 0)),
        ])

    def test_rising_by_texts_not_by_numbers(self):
        program = read_program("send 3 0 9\nsend 3 0 10\nsend 3 0 -1\ntake any 0 x; tell x\n")
        found = ends(program, room=1)
        self.assertEqual([end[3][1][0] for end in found], [-1, 10, 9])
        self.assertEqual(found, sorted(found, key=str))
        self.assertNotEqual(found, sorted(found))

    def test_no_rows(self):
        for hands in (2, 3, 4, 5):
            self.assertEqual(ends(((),) * hands), [(((), (), (), 0),) * hands])

    def test_wild_takes_that_meet_nothing(self):
        program = (with_wild(6)[0], ())
        self.assertEqual(ends(program), [(((), (), (), 6), ((), (), (), 0))])

    def test_room_is_0_if_none_is_told(self):
        program = read_program("send 1 0 5; tell 1\n\n")
        self.assertEqual(ends(program), ends(program, room=0))
        self.assertNotEqual(ends(program), ends(program, room=1))
        self.assertIs(can_stick(program), True)
        self.assertIs(can_stick(program, room=1), False)
        program = read_program("send 1 0 5; send 2 0 6\n\ntake 0 0 x\n")
        self.assertEqual(partners(program), {})
        self.assertEqual(partners(program, room=1), {(2, 0): [(0, 1)]})

    def test_stuck_by_some_orders_and_done_by_others(self):
        program = read_program("take any 0 x; take 1 0 y\nsend 0 0 5\nsend 0 0 6\n")
        for room in ROOMS:
            found = ends(program, room=room)
            self.assertEqual([[part[3] for part in end] for end in found],
                             [[1, 0, 1 if room == 0 else 0], [0, 0, 0]])
            self.assertIs(can_stick(program, room=room), True)

    def test_cases_that_go_by_what_a_wild_take_met(self):
        program = read_program("take any 0 x; case x 5 {take any 1 y; tell y} {send 1 1 x}\n"
                               "send 0 0 5; send 0 1 7; take 0 1 z\nsend 0 0 6; send 0 1 8\n")
        found = ends(program, room=None)
        self.assertEqual([(end[0][1], end[0][2], end[1][0]) for end in found], [
            ((7,), ((0, 1, 0), (1, 1, 1)), ()),
            ((8,), ((0, 1, 0), (1, 2, 1)), ()),
            ((), ((0, 2, 0),), (("z", 6),)),
        ])
        self.assertEqual(partners(program, room=None),
                         {(0, 0): [(1, 0), (2, 0)], (0, 1): [(1, 1), (2, 1)], (1, 0): [(0, 0)]})

    def test_wild_posts(self):
        program = read_program("post p any 0 x; post q any 0 y; wait q; tell y; wait p; tell x\n"
                               "send 0 0 5\nsend 0 0 6\n")
        self.assertEqual([end[0][1] for end in ends(program)], [(6, 5), (5, 6)])
        program = read_program("post p any 0 x; take 1 0 y; tell y\nsend 0 0 5; send 0 0 7\nsend 0 0 6\n")
        self.assertEqual([end[0][1] for end in ends(program, room=2)], [(5,), (7,)])

    def test_a_wild_take_with_a_mark(self):
        program = read_program("take any 3 x\nsend 0 2 5; send 0 3 6\nsend 0 3 7\n")
        self.assertEqual([end[0][0] for end in ends(program, room=1)], [(("x", 6),), (("x", 7),)])
        self.assertEqual([end[0][0] for end in ends(program)], [(("x", 7),)])

    def test_a_thing_that_comes_only_when_a_wild_take_of_another_hand_has_met(self):
        program = read_program("take any 0 x\ntake any 0 y; send 0 0 y\nsend 1 0 5; send 0 0 6\n")
        self.assertEqual(partners(program), {(0, 0): [(1, 0), (2, 1)], (1, 0): [(2, 0)]})

    def test_all_that_is_told_is_new(self):
        program = read_program("send 2 0 5\nsend 2 0 6\ntake any 0 x; tell x\n")
        found, met = ends(program), partners(program)
        before = list(found), {pair: list(pairs) for pair, pairs in met.items()}
        self.assertEqual((type(found), type(met), type(met[2, 0])), (list, dict, list))
        found.clear()
        met[2, 0].clear()
        met[2, 1] = []
        self.assertEqual((ends(program), partners(program)), before)


class Orders(unittest.TestCase):
    def test_as_many_ends_as_orders_of_the_things(self):
        for counts, many in (((1, 1), 2), ((1, 1, 1), 6), ((1, 1, 1, 1), 24), ((3, 3), 20), ((2, 4), 15), ((2, 2, 2), 90),
                             ((1, 2, 3), 60), ((2, 2, 1, 1), 180), ((6, 0), 1), ((5, 1), 6), ((1, 5, 0, 0), 6)):
            for room in ROOMS:
                found = ends(gathered(*counts), room=room)
                self.assertEqual(len(found), many)
                self.assertEqual(told_orders(found), orders_of(*counts))
                self.assertEqual(can_stick(gathered(*counts), room=room), sum(counts) < 6)

    def test_more_things_than_takes(self):
        for counts in ((3, 4), (6, 6), (2, 3, 4), (2, 2, 2, 2)):
            for room in ROOMS:
                self.assertEqual(told_orders(ends(gathered(*counts), room=room)), orders_of(*counts))

    def test_as_many_as_there_can_be(self):
        for room in ROOMS:
            found = ends(gathered(6, 6, 6, 6)[:1] + (sends_to(0, 6),) * 4, room=room)
            self.assertEqual(len(found), 4 ** 6)
            self.assertEqual(found, sorted(set(found), key=str))

    def test_wild_takes_that_go_by_themselves(self):
        posts = tuple(("post", "t", None, mark, "x") for mark in range(6))
        sends = tuple(("send", 0, mark, mark) for mark in range(6))
        program = (posts,) + (sends,) * 4
        self.assertEqual(len(ends(program, room=None)), 4 ** 6)
        self.assertEqual(partners(program, room=6),
                         {(0, mark): [(hand, mark) for hand in (1, 2, 3, 4)] for mark in range(6)})
        self.assertEqual(len(ends(program)), 4)

    def test_each_hand_takes_and_sends(self):
        program = tuple((("post", "t", None, 0, "x"),) + tuple(("send", other, 0, hand) for other in range(5) if other != hand)
                        + (("wait", "t"), ("tell", "x")) for hand in range(5))
        self.assertEqual(len(ends(program, room=1)), 4 ** 5)
        self.assertIs(can_stick(program, room=1), False)
        self.assertIs(can_stick(program), True)


class GreatPrograms(unittest.TestCase):
    """Programs of 5 hands, 40 rows and 6 wild takes, held against runs by many orders."""

    FORTY = (
        ("take any 0 a; case a 1 {take any any b; tell b} {post p any 1 b; wait p; tell b}; send 1 2 a; all\n"
         "post q any 0 c; send 0 0 1; send 0 1 2; take 0 2 d; wait q; tell c; all\n"
         "send 0 0 3; send 1 0 4; take any 3 e; send 0 1 5; tell e; all; tell 1\n"
         "send 1 0 6; send 2 3 7; send 0 0 8; take any any g; tell g; all\n"
         "send 2 3 9; send 3 3 10; send 0 1 11; send 3 4 12; tell 2; all; tell 3; add h 1 1; tell h; add h h h; tell h\n"),
        ("all; take any 0 a; tell a; take any 1 b; tell b; take any any c; tell c; send 1 0 c\n"
         "send 0 0 1; send 0 1 2; send 0 0 3; all; post p 0 0 x; wait p; tell x; send 2 5 x\n"
         "send 0 1 4; send 0 0 5; all; take any 5 y; tell y; send 0 2 7; tell 1\n"
         "post p any 7 z; all; send 0 0 6; send 4 1 8; wait p; tell z; tell 2; tell 3\n"
         "all; take 3 1 u; send 3 7 9; send 2 5 10; take any any v; tell v; tell 1; tell 2; tell 3\n"),
    )

    def test_ends_of_runs_are_among_them(self):
        chance = random.Random(3)
        for text in self.FORTY:
            program = read_program(text)
            for room in ROOMS:
                found = ends(program, room=room)
                self.assertEqual(found, sorted(set(found), key=str))
                met = {}
                for end in found:
                    for sender, send, taker, take in told_meetings(end):
                        met.setdefault((taker, take), set()).add((sender, send))
                self.assertEqual(partners(program, room=room), {pair: sorted(pairs) for pair, pairs in met.items()})
                runs = [run_through(program, room, chance.choice) for turn in range(60)]
                self.assertLessEqual({run.end() for run in runs}, set(found))
                self.assertLessEqual("stuck" in [run.state() for run in runs], can_stick(program, room=room))

    def test_they_are_as_great_as_can_be(self):
        for text in self.FORTY:
            program = read_program(text)
            self.assertEqual((len(program), wild_takes(program)), (5, 6))
            self.assertTrue(is_program(program))
            self.assertFalse(is_program(program[:4] + (program[4] + (("all",),),)))

    def test_forty_rows_without_wild_takes(self):
        program = (sends_to(1, 20), (("take", 0, None, "x"),) * 20)
        for room in ROOMS:
            self.assertEqual(ends(program, room=room), [run_through(program, room, lambda events: events[0]).end()])
            self.assertEqual(partners(program, room=room), {(1, number): [(0, number)] for number in range(20)})

    def test_cases_within_cases(self):
        rows = (("take", None, 0, "x"),)
        for level in range(37):
            rows = (("case", "y", 0, rows, ()),)
        program = (rows, (("send", 0, 0, 1),), (("send", 0, 0, 2),))
        self.assertEqual([end[0][0] for end in ends(program)], [(("x", 1),), (("x", 2),)])


class WithoutWildTakes(unittest.TestCase):
    def test_one_end_that_each_order_comes_to(self):
        for seed in range(200):
            program = random_program(seed, False)
            chance = random.Random(seed)
            for room in ROOMS:
                run = run_through(program, room, chance.choice)
                self.assertEqual(ends(program, room=room), [run.end()])
                self.assertIs(can_stick(program, room=room), run.state() == "stuck")
                self.assertEqual(partners(program, room=room), {
                    (taker, take): [(sender, send)] for sender, send, taker, take in told_meetings(run.end())})


class Partners(unittest.TestCase):
    def test_takes_that_are_not_wild_are_told_too(self):
        program = read_program("take 1 0 x; take any 0 y; take 2 5 z\nsend 0 0 1; send 0 0 2\nsend 0 0 3\n")
        self.assertEqual(partners(program, room=2), {(0, 0): [(1, 0)], (0, 1): [(1, 1), (2, 0)]})

    def test_a_take_that_is_not_wild_meets_other_sends_by_what_a_wild_one_met(self):
        program = read_program("take any 0 x; take 1 0 y\nsend 0 0 1; send 0 0 2\nsend 0 0 3\n")
        self.assertEqual(partners(program, room=2), {(0, 0): [(1, 0), (2, 0)], (0, 1): [(1, 0), (1, 1)]})

    def test_none(self):
        self.assertEqual(partners(((), ())), {})
        self.assertEqual(partners(with_wild(6)), {})

    def test_lists_rise_by_numbers(self):
        sends = sends_to(0, 12, mark=1) + (("send", 0, 0, 1),)
        program = ((("post", "t", 1, 1, "x"),) * 10 + (("take", None, None, "y"),), sends, (("send", 0, 0, 2),))
        self.assertEqual(partners(program, room=None)[0, 10], [(1, 10), (2, 0)])
        program = ((("take", None, None, "x"),) * 3, sends_to(0, 3), sends_to(0, 3))
        self.assertEqual(partners(program)[0, 2], [(1, 0), (1, 1), (1, 2), (2, 0), (2, 1), (2, 2)])


class Refusals(unittest.TestCase):
    def test_too_many_wild_takes(self):
        for many in range(7):
            self.assertEqual(wild_takes(with_wild(many)), many)
            for ask in ASKS:
                ask(with_wild(many), room=1)
        for many in (7, 8):
            self.assertEqual(wild_takes(with_wild(many)), many)
            for ask in ASKS:
                with self.assertRaises(TooMany):
                    ask(with_wild(many), room=1)

    def test_those_within_cases_and_of_all_hands_count(self):
        take, post = ("take", None, 0, "x"), ("post", "t", None, 0, "x")
        for program in (((take,) * 7, ()), ((post,) * 7, ()), ((take,) * 3, (post,) * 4), ((take,) * 20, (post,) * 20),
                        ((("case", "x", 0, (take,) * 4, (post,) * 3),), ()), ((("case", "x", 0, (), (take,) * 7),), ()),
                        ((("case", "x", 9, (("case", "x", 9, (take,), ()),), ()),) * 7, ()),
                        ((take, post), (take, post), (take,), (post,), (take,))):
            for ask in ASKS:
                with self.assertRaises(TooMany):
                    ask(program)

    def test_takes_that_are_not_wild_do_not_count(self):
        take = ("take", 1, None, "x")
        for ask in ASKS:
            ask(((take,) * 30, ()))

    def test_no_programs(self):
        for thing in OTHER_THINGS + ((((("take", None, 0, "x"),) * 7),), ((("tell", 1),) * 41, ())):
            for ask in ASKS:
                for room in (0, None, -1, True, "a"):
                    with self.assertRaises(BadProgram):
                        ask(thing, room=room)

    def test_no_rooms(self):
        for room in NO_ROOMS:
            for ask in ASKS:
                for many in (0, 6, 7):
                    with self.assertRaises(BadRoom):
                        ask(with_wild(many), room=room)

    def test_room_is_handed_in_by_name(self):
        for ask in ASKS:
            with self.assertRaises(TypeError):
                ask(((), ()), 0)


if __name__ == "__main__":
    unittest.main()
