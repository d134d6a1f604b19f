import copy
import inspect
import random
import unittest

from tests.samples import ROOMS, do_all, random_program, random_wild_program, run_through
from wildtakes.ends import can_stick, ends, partners
from wildtakes.errors import BadProgram, BadRoom, NoEvent, TakeError
from wildtakes.programs import is_program, program_text, read_program, wild_takes
from wildtakes.replays import play, told_meetings
from wildtakes.rooms import room_needed
from wildtakes.runs import Run
from wildtakes.sticking import ring, waits

PROGRAM = (
    (("add", "b", 1, 1), ("add", "a", 3, 4), ("tell", "a"), ("send", 1, 0, "a"), ("send", 1, 1, 5), ("tell", 8)),
    (("post", "t", 0, 0, "x"), ("post", "u", 0, 2, "y"), ("wait", "t")),
)


def run_halfway():
    """A run with something of each: boxes, told values, open takes, things on their way, a wait."""
    return do_all(Run(PROGRAM, room=1), 0, 0, 0, 0, 0, 1, 1, 1)


def all_told(run):
    """All that a run of two hands tells of itself."""
    hands = (0, 1)
    return (run.events(), run.state(), len(run), [run.boxes(hand) for hand in hands], [run.told(hand) for hand in hands],
            [run.open_takes(hand) for hand in hands], run.on_way(0, 1), run.on_way(1, 0))


def end_of(run):
    while run.events():
        run.do(run.events()[0])
    return run.end()


class NewOnes(unittest.TestCase):
    def test_lists_that_are_told_are_new_ones(self):
        run = run_halfway()
        before = all_told(run.twin())
        for tell in (run.events, lambda: run.told(0), lambda: run.told(1), lambda: run.open_takes(0),
                     lambda: run.open_takes(1), lambda: run.on_way(0, 1), lambda: run.on_way(1, 0)):
            told = tell()
            self.assertIs(type(told), list)
            told.append("more")
            self.assertEqual(all_told(run), before)
            told.clear()
            self.assertEqual(all_told(run), before)
        self.assertEqual(end_of(run), end_of(run_halfway()))

    def test_dicts_that_are_told_are_new_ones(self):
        run = run_halfway()
        self.assertEqual(run.boxes(0), {"a": 7, "b": 2})
        boxes = run.boxes(0)
        self.assertIs(type(boxes), dict)
        boxes["a"] = 1
        boxes["c"] = 1
        del boxes["b"]
        run.boxes(1)["x"] = 1
        self.assertEqual(run.boxes(0), {"a": 7, "b": 2})
        self.assertEqual(run.boxes(1), {})
        self.assertEqual(end_of(run), end_of(run_halfway()))

    def test_ends_can_not_be_changed(self):
        end = end_of(run_halfway())
        hash(end)
        self.assertIs(type(end), tuple)
        for part in end:
            self.assertEqual([type(thing) for thing in part], [tuple, tuple, tuple, int])

    def test_the_program_is_unchanged(self):
        program = read_program(program_text(PROGRAM))
        is_program(program)
        wild_takes(program)
        end_of(Run(program, room=1))
        self.assertEqual(program, PROGRAM)

    def test_two_runs_of_one_program(self):
        one, other = Run(PROGRAM, room=1), Run(PROGRAM, room=1)
        end_of(one)
        self.assertEqual(len(other), 0)
        self.assertEqual(other.events(), [("go", 0), ("go", 1)])


class Interface(unittest.TestCase):
    def test_names_arguments_and_defaults(self):
        for thing, arguments in (
            (is_program, "(thing)"), (wild_takes, "(program)"), (program_text, "(program)"), (read_program, "(text)"),
            (Run, "(program, *, room=0)"), (Run.events, "(self)"), (Run.do, "(self, event)"), (Run.state, "(self)"),
            (Run.end, "(self)"), (Run.boxes, "(self, hand)"), (Run.told, "(self, hand)"), (Run.open_takes, "(self, hand)"),
            (Run.on_way, "(self, sender, taker)"), (Run.twin, "(self)"),
            (ends, "(program, *, room=0)"), (partners, "(program, *, room=0)"), (can_stick, "(program, *, room=0)"),
            (waits, "(run)"), (ring, "(run)"), (room_needed, "(program)"), (told_meetings, "(end)"),
            (play, "(program, meetings, *, room=0, order=())"),
        ):
            self.assertEqual(str(inspect.signature(thing)), arguments, thing)


class WhatIsHandedIn(unittest.TestCase):
    def test_nothing_of_it_is_changed(self):
        for seed in range(60):
            program = random_wild_program(seed)
            order, meetings = (3, 1, 2), told_meetings(ends(program, room=1)[-1]) + [(9, 9, 9, 9)]
            before = copy.deepcopy((program, order, meetings))
            found = ends(program, room=1)
            partners(program, room=1)
            can_stick(program, room=1)
            play(program, meetings, room=1, order=order)
            self.assertEqual((program, order, meetings), before)
            for end in found:
                kept = copy.deepcopy(end)
                told_meetings(end).append(None)
                self.assertEqual(end, kept)

    def test_nothing_is_kept(self):
        program = read_program("send 2 0 5\nsend 2 0 6\ntake any 0 x; tell x\n")
        for ask in (lambda: ends(program), lambda: partners(program), lambda: told_meetings(ends(program)[0]),
                    lambda: list(play(program, [(1, 0, 2, 0)])), lambda: waits(run_through(program, 0, lambda events: events[0]))):
            told, again = ask(), ask()
            self.assertIsNot(told, again)
            told.clear()
            self.assertEqual(ask(), again)
        for pair in partners(program):
            self.assertIsNot(partners(program)[pair], partners(program)[pair])


class Twins(unittest.TestCase):
    def test_a_twin_stands_just_so(self):
        run = run_halfway()
        twin = run.twin()
        self.assertIsInstance(twin, Run)
        self.assertEqual(all_told(twin), all_told(run))
        self.assertEqual(end_of(twin), end_of(run))
        self.assertEqual(len(twin), len(run))
        self.assertEqual(run.twin().end(), run.end())

    def test_a_twin_goes_on_by_itself(self):
        run = run_halfway()
        before = all_told(run)
        twin = run.twin()
        end_of(twin)
        self.assertNotEqual(all_told(twin), before)
        self.assertEqual(all_told(run), before)
        twin = run.twin()
        end_of(run)
        self.assertEqual(all_told(twin), before)

    def test_at_each_moment_of_runs_at_random(self):
        for seed in range(150):
            program = random_program(seed, True)
            room = ROOMS[seed % len(ROOMS)]
            chance = random.Random(seed)
            run = Run(program, room=room)
            done = []
            while run.events():
                before = run.events()
                end = end_of(run.twin())
                again = Run(program, room=room)
                for event in done:
                    again.do(event)
                self.assertEqual(end, end_of(again))
                self.assertEqual(run.events(), before)
                done.append(chance.choice(before))
                run.do(done[-1])

    def test_a_twin_keeps_its_room(self):
        sends = (("send", 1, 0, 1),) * 4
        for room, many in ((0, 1), (1, 2), (2, 3), (None, 4)):
            twin = Run((sends, ()), room=room).twin()
            end_of(twin)
            self.assertEqual(len(twin.on_way(0, 1)), many)


class Orders(unittest.TestCase):
    def programs(self):
        return [random_program(seed, False) for seed in range(400)]

    def test_one_end_by_whatever_order(self):
        met = 0
        for seed, program in enumerate(self.programs()):
            chance = random.Random(seed)
            self.assertEqual(wild_takes(program), 0)
            for room in ROOMS:
                chooses = [lambda events: events[0], lambda events: events[-1]] + [chance.choice] * 3
                ends = {run_through(program, room, choose).end() for choose in chooses}
                self.assertEqual(len(ends), 1, (program, room))
                met += sum(len(part[2]) for part in ends.pop())
        self.assertGreater(met, 1000)

    def test_with_more_room_nothing_gets_stuck(self):
        freed = 0
        for program in self.programs():
            states = [run_through(program, room, lambda events: events[0]).state() for room in ROOMS]
            self.assertEqual(states, sorted(states, reverse=True), program)
            freed += len(set(states)) - 1
        self.assertGreater(freed, 20)

    def test_the_one_end_is_told_alone(self):
        for seed, program in enumerate(self.programs()[:150]):
            chance = random.Random(seed)
            for room in ROOMS:
                end = run_through(program, room, chance.choice).end()
                self.assertEqual(ends(program, room=room), [end])
                self.assertEqual(play(program, [], room=room, order=(seed, 3, 1, 2)), end)

    def test_with_more_room_none_can_stick_that_could_not(self):
        for program in self.programs()[:150]:
            sticks = [can_stick(program, room=room) for room in ROOMS]
            self.assertEqual(sticks, sorted(sticks, reverse=True))
            self.assertEqual(room_needed(program) is None, sticks[-1])

    def test_what_is_stuck_has_no_end_but_this(self):
        for seed in range(200):
            program = random_wild_program(seed)
            chance = random.Random(seed)
            for room in ROOMS:
                run = run_through(program, room, chance.choice)
                self.assertIn(run.end(), ends(program, room=room))
                if run.state() == "stuck":
                    self.assertEqual((run.events(), can_stick(program, room=room)), ([], True))

    def test_wild_takes_may_come_to_several_ends(self):
        program = ((("send", 2, 0, 5),), (("send", 2, 0, 6),), (("take", None, 0, "x"),))
        first = run_through(program, 1, lambda events: events[0]).end()
        last = run_through(program, 1, lambda events: events[-1]).end()
        self.assertNotEqual(first, last)

    def test_things_from_one_hand_come_in_their_order(self):
        chance = random.Random(1)
        program = (tuple(("send", 2, 0, number) for number in range(1, 6)),
                   tuple(("send", 2, 0, number) for number in range(11, 16)),
                   (("take", None, None, "x"), ("tell", "x")) * 10)
        for turn in range(60):
            for room in ROOMS:
                told = list(run_through(program, room, chance.choice).end()[2][1])
                self.assertEqual([value for value in told if value < 10], [1, 2, 3, 4, 5])
                self.assertEqual([value for value in told if value > 10], [11, 12, 13, 14, 15])


class Refusals(unittest.TestCase):
    def test_the_first_named_is_raised(self):
        for program in (None, (), ((),), "a", ((("tell", None),), ())):
            for room in (-1, 100, True, "0", []):
                with self.assertRaises(BadProgram):
                    Run(program, room=room)
        for room in (-1, 100, True, "0", []):
            with self.assertRaises(BadRoom):
                Run(PROGRAM, room=room)

    def test_each_is_a_take_error(self):
        for refused in (lambda: Run(None), lambda: Run(PROGRAM, room=-1), lambda: Run(PROGRAM).end(),
                        lambda: Run(PROGRAM).do(None), lambda: read_program(None), lambda: program_text(None),
                        lambda: wild_takes(None), lambda: ends(None), lambda: partners(PROGRAM, room=-1),
                        lambda: can_stick(((("take", None, 0, "x"),) * 7, ())), lambda: waits(Run(PROGRAM)),
                        lambda: ring(Run(PROGRAM)), lambda: room_needed(((("take", None, 0, "x"),), ())),
                        lambda: play(PROGRAM, None), lambda: play(PROGRAM, [], order=None)):
            with self.assertRaises(TakeError):
                refused()

    def test_what_is_refused_changes_nothing(self):
        run = run_halfway()
        before = all_told(run)
        thing = ["go", 0]
        for event in (("go", 7), thing, None, ("meet", 0, 1, 1, 0)):
            with self.assertRaises(NoEvent):
                run.do(event)
        self.assertEqual(thing, ["go", 0])
        self.assertEqual(all_told(run), before)
        self.assertEqual(end_of(run), end_of(run_halfway()))


if __name__ == "__main__":
    unittest.main()
