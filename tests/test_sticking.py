import itertools
import random
import unittest

from tests.model import Model
from tests.samples import OTHER_THINGS, ROOMS, do_all, random_program, random_wild_program, run_through
from wildtakes.errors import NotEnded
from wildtakes.programs import read_program
from wildtakes.runs import Run
from wildtakes.sticking import ring, waits


def first_end(text, room=0):
    """A run of a program's text, each step the first of its events."""
    return run_through(read_program(text), room, lambda events: events[0])


def slow_ring(told):
    """The ring once more, by the document's words, from what each hand waits for."""
    awaited = {hand: set(hands) for hand, word, hands in told}
    for size in range(1, len(awaited) + 1):
        for group in itertools.combinations(sorted(awaited), size):
            among = set(group)
            if all(awaited[hand] & among and not (awaited[hand] & set(awaited)) - among for hand in group):
                return group
    return (min(hand for hand in awaited if not awaited[hand] & set(awaited)),)


def all_told(run, hands):
    """All that a run tells of itself."""
    pairs = [(one, other) for one in range(hands) for other in range(hands) if one != other]
    return (run.events(), run.state(), len(run), run.end(), [run.open_takes(hand) for hand in range(hands)],
            [run.on_way(one, other) for one, other in pairs])


class Waits(unittest.TestCase):
    def check(self, text, told, group, room=0):
        run = first_end(text, room)
        self.assertEqual(run.state(), "stuck")
        self.assertEqual(waits(run), told)
        self.assertEqual(ring(run), group)

    def test_a_send_and_a_take_for_ended_hands(self):
        self.check("send 1 0 5\n\n", [(0, "send", (1,))], (0,))
        self.check("\ntake 0 0 x\n", [(1, "take", (0,))], (1,))

    def test_a_wait_for_an_ended_hand(self):
        self.check("\npost p 0 0 x; wait p\n", [(1, "wait", (0,))], (1,))

    def test_wild_ones(self):
        self.check("take any 0 x\n\n\n", [(0, "take", (1, 2))], (0,))
        self.check("\n\ntake any 0 x\n\n\n", [(2, "take", (0, 1, 3, 4))], (2,))
        self.check("\npost p any any x; wait p\n\n", [(1, "wait", (0, 2))], (1,))
        self.check("\ntake 2 any x\n\n", [(1, "take", (2,))], (1,))

    def test_a_wait_is_for_the_last_post_of_its_ticket(self):
        self.check("\npost p any 0 x; post p 2 0 x; wait p\n\n", [(1, "wait", (2,))], (1,))
        self.check("\npost p 2 0 x; post p any 0 x; wait p\n\n", [(1, "wait", (0, 2))], (1,))
        self.check("\npost p 2 0 x; post q 0 0 x; wait p\n\n", [(1, "wait", (2,))], (1,))

    def test_a_take_behind_posts(self):
        self.check("\npost p any 0 x; post q 0 0 x; take 2 0 x\n\n", [(1, "take", (2,))], (1,))

    def test_a_send_without_room(self):
        self.check("send 1 0 5; send 1 0 6; tell 1\n\n\n", [(0, "send", (1,))], (0,), room=1)
        self.check("send 2 0 5; send 1 0 6; send 2 0 7\n\n\n", [(0, "send", (2,))], (0,), room=1)

    def test_an_all(self):
        self.check("all\ntake 0 0 x\n", [(0, "all", (1,)), (1, "take", (0,))], (0, 1))
        self.check("all\nall\ntake 3 0 x\n\n", [(0, "all", (2,)), (1, "all", (2,)), (2, "take", (3,))], (2,))
        self.check("all\ntake 2 0 x\nall\ntake 0 0 x\n\n",
                   [(0, "all", (1, 3)), (1, "take", (2,)), (2, "all", (1, 3)), (3, "take", (0,))], (0, 1, 2, 3))

    def test_all_waits_for_nobody_who_has_come_or_ended(self):
        self.check("\nall\nall\nsend 0 0 1\nsend 3 0 1\n",
                   [(1, "all", (3, 4)), (2, "all", (3, 4)), (3, "send", (0,)), (4, "send", (3,))], (3,))

    def test_kinds(self):
        run = first_end("all\ntake 0 0 x\n")
        told = waits(run)
        self.assertEqual([type(told), type(told[0]), type(told[0][2]), type(ring(run))], [list, tuple, tuple, tuple])


class Rings(unittest.TestCase):
    def check(self, text, group, room=0):
        run = first_end(text, room)
        self.assertEqual(run.state(), "stuck")
        self.assertEqual(ring(run), group)

    def test_two(self):
        self.check("take 1 0 x\ntake 0 0 x\n", (0, 1))
        self.check("send 1 0 1; take 1 0 x\nsend 0 0 1; take 0 0 x\n", (0, 1))
        self.check("\ntake 3 0 x\n\ntake 1 0 x\n", (1, 3))
        self.check("send 1 0 1\nall\n", (0, 1))
        self.check("post p 1 0 x; wait p\nsend 0 1 5\n", (0, 1))

    def test_three(self):
        self.check("take 1 0 x\ntake 2 0 x\ntake 0 0 x\n", (0, 1, 2))
        self.check("\ntake 4 0 x\nsend 1 0 5\n\nsend 2 0 5\n", (1, 2, 4))

    def test_all_hands(self):
        self.check("take 1 0 x\ntake 2 0 x\ntake 3 0 x\ntake 4 0 x\ntake 0 0 x\n", (0, 1, 2, 3, 4))
        self.check("take any 0 x\ntake any 0 x\ntake any 0 x\ntake any 0 x\ntake any 0 x\n", (0, 1, 2, 3, 4))

    def test_of_two_rings_the_shortest(self):
        self.check("take 1 0 x\ntake 2 0 x\ntake 0 0 x\ntake 4 0 x\ntake 3 0 x\n", (3, 4))

    def test_of_two_as_short_the_first(self):
        self.check("take 3 0 x\ntake 2 0 x\ntake 1 0 x\ntake 0 0 x\n", (0, 3))
        self.check("take 4 0 x\ntake 2 0 x\ntake 1 0 x\n\ntake 0 0 x\n", (0, 4))
        self.check("take 1 0 x\ntake 0 0 x\ntake 3 0 x\ntake 2 0 x\n", (0, 1))

    def test_a_hand_that_waits_for_a_ring_without_being_in_it(self):
        self.check("take 1 0 x\ntake 2 0 x\ntake 1 0 x\n", (1, 2))
        self.check("take any 0 x\ntake 2 0 x\ntake 1 0 x\n", (1, 2))
        self.check("all\nall\ntake 3 0 x\ntake 2 0 x\n", (2, 3))

    def test_wild_ones_draw_all_in_that_have_not_ended(self):
        self.check("take any 0 x\ntake 0 0 x\n\n", (0, 1))
        self.check("take any 0 x\ntake 0 0 x\ntake 0 0 x\n\n", (0, 1, 2))
        self.check("take any 0 x\ntake any 0 x\n\n\n", (0, 1))

    def test_a_ring_goes_ahead_of_a_lower_hand_that_waits_for_ended_ones(self):
        self.check("take 1 0 x\n\ntake 3 0 x\ntake 2 0 x\n", (2, 3))

    def test_no_ring(self):
        self.check("take 1 0 x\ntake 2 0 x\n\n", (1,))
        self.check("take 1 0 x\ntake 2 0 x\ntake 3 0 x\n\n", (2,))
        self.check("take 1 0 x\ntake 3 0 x\ntake 4 0 x\n\n\n", (1,))
        self.check("all\ntake 2 0 x\n\n", (1,))
        self.check("take any 0 x\ntake any 0 x\ntake 3 0 x\n\n", (2,))

    def test_hands_that_wait_for_one_that_waits_for_ended_ones_are_in_no_ring(self):
        self.check("take any 0 x\ntake any 0 x\nsend 3 0 1\n\n", (2,))
        self.check("take 1 0 x\ntake any 0 x\nsend 3 0 1\n\n", (2,))


class NotStuck(unittest.TestCase):
    def assert_refused(self, run):
        for ask in (waits, ring):
            with self.assertRaises(NotEnded):
                ask(run)

    def test_runs_that_go_on(self):
        run = Run(read_program("take 1 0 x\ntake 0 0 x; tell 1\n"))
        self.assert_refused(run)
        self.assert_refused(do_all(run, 0))
        do_all(run, 1)
        self.assertEqual(waits(run), [(0, "take", (1,)), (1, "take", (0,))])

    def test_runs_in_which_a_meeting_alone_is_left(self):
        run = do_all(Run(read_program("take 1 0 x\nsend 0 0 5\n")), 0, 1)
        self.assert_refused(run)
        self.assert_refused(do_all(run, (1, 0, 0, 0)))

    def test_runs_that_are_done(self):
        self.assert_refused(Run(((), ())))
        self.assert_refused(first_end("tell 1\n\n"))
        self.assert_refused(first_end("send 1 0 5; post p 1 0 x\n\n", room=1))

    def test_what_is_no_run(self):
        for thing in OTHER_THINGS:
            self.assert_refused(thing)

    def test_what_is_refused_is_unchanged(self):
        run = do_all(Run(read_program("take 1 0 x\nsend 0 0 5; tell 1\n")), 0)
        self.assert_refused(run)
        self.assertEqual((run.events(), len(run), run.open_takes(0)), ([("go", 1)], 1, [0]))


class AtRandom(unittest.TestCase):
    def stuck_runs(self):
        """Pairs of stuck runs, and models gone the same way, and how many hands they have."""
        for seed in range(500):
            program = random_wild_program(seed) if seed % 2 else random_program(seed, seed % 4 == 0)
            room = ROOMS[seed % len(ROOMS)]
            chance = random.Random(seed)
            run, model = Run(program, room=room), Model(program, room)
            while run.events():
                event = chance.choice(run.events())
                run.do(event)
                model.do(event)
            if run.state() == "stuck":
                yield run, model, len(program)

    def test_as_the_model_says(self):
        words, sizes = set(), set()
        for run, model, hands in self.stuck_runs():
            self.assertEqual(waits(run), model.waits())
            self.assertEqual(ring(run), slow_ring(model.waits()))
            words.update(word for hand, word, others in waits(run))
            sizes.add(len(ring(run)))
        self.assertEqual(words, {"send", "take", "wait", "all"})
        self.assertLessEqual({1, 2, 3}, sizes)

    def test_the_run_is_as_it_was(self):
        for run, model, hands in self.stuck_runs():
            before = all_told(run, hands)
            told, group = waits(run), ring(run)
            self.assertEqual(all_told(run, hands), before)
            told.clear()
            self.assertEqual(ring(run), group)
            self.assertEqual(waits(run), model.waits())

    def test_what_is_told_waits_for_none_but_these_or_ended_hands(self):
        for run, model, hands in self.stuck_runs():
            awaited = {hand: others for hand, word, others in waits(run)}
            self.assertEqual(list(awaited), [hand for hand in range(hands) if run.end()[hand][3] > 0])
            group = ring(run)
            self.assertEqual(group, tuple(sorted(set(group))))
            for hand in group:
                self.assertTrue(awaited[hand])
                self.assertTrue(all(other in group or other not in awaited for other in awaited[hand]))
                self.assertTrue(len(group) == 1 or set(awaited[hand]) & set(group))

    def test_rings_of_hands_that_wait_for_others_at_random(self):
        chance = random.Random(8)
        seen = set()
        for turn in range(1500):
            hands = chance.choice((2, 3, 4, 5))
            rows = []
            for hand in range(hands):
                others = [other for other in range(hands) if other != hand]
                rows.append(chance.choice(["", "all", "take any 9 x", "post p any 9 x; wait p"]
                                          + [f"take {other} 9 x" for other in others]
                                          + [f"send {other} 0 1" for other in others]))
            run = first_end("".join(row + "\n" for row in rows))
            if run.state() == "stuck":
                self.assertEqual(ring(run), slow_ring(waits(run)), rows)
                seen.add(ring(run))
        self.assertGreater(len(seen), 25)


if __name__ == "__main__":
    unittest.main()
