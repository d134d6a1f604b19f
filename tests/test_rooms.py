import unittest

from tests.samples import OTHER_THINGS, nested, random_program, run_through
from wildtakes.errors import BadProgram, Wild
from wildtakes.programs import read_program
from wildtakes.rooms import room_needed


def is_done(program, room):
    return run_through(program, room, lambda events: events[0]).state() == "done"


class RoomNeeded(unittest.TestCase):
    def check(self, text, room):
        program = read_program(text)
        self.assertEqual(room_needed(program), room)
        self.assertNotIsInstance(room_needed(program), bool)
        rooms = [other for other in list(range(100)) + [None] if is_done(program, other)]
        self.assertEqual(rooms, [] if room is None else list(range(room, 100)) + [None])

    def test_none_at_all(self):
        self.check("\n\n", 0)
        self.check("tell 1; all\nall\n", 0)
        self.check("send 1 0 5; take 1 0 x\ntake 0 0 x; send 0 0 x\n", 0)
        self.check("post p 1 0 x; send 1 0 5; wait p\npost p 0 0 x; send 0 0 5; wait p\n", 0)

    def test_one(self):
        self.check("send 1 0 5; take 1 0 x\nsend 0 0 6; take 0 0 x\n", 1)
        self.check("send 1 0 5; send 1 1 6\ntake 0 1 x; take 0 0 x\n", 1)
        self.check("send 1 0 5; all\nall; take 0 0 x\n", 1)
        self.check("send 1 0 5\n\n", 1)
        self.check("send 1 0 1; take 2 0 x\nsend 2 0 1; take 0 0 x\nsend 0 0 1; take 1 0 x\n", 1)

    def test_the_least_that_lets_one_hand_through(self):
        for one in range(1, 10):
            for other in range(1, 11 - one):
                mine, yours = "send 1 0 5; " * one + "take 1 0 x; " * other, "send 0 0 5; " * other + "take 0 0 x; " * one
                self.check(mine[:-2] + "\n" + yours[:-2] + "\n", min(one, other))

    def test_things_that_are_never_taken(self):
        for many in (2, 3, 10, 39, 40):
            self.check("; ".join(["send 1 0 5"] * many) + "\n\n", many)
        self.check("send 1 0 5; send 2 0 5; send 1 0 5; send 2 0 5; send 1 0 5\n\n\n", 3)
        self.check("send 1 0 5; send 1 0 5; send 1 0 5\ntake 0 0 x; take 0 0 x\n", 1)

    def test_things_taken_in_another_order(self):
        for many in (1, 2, 5, 9):
            self.check("; ".join(["send 1 0 5"] * many + ["send 1 1 6"]) + "\n"
                       + "; ".join(["take 0 1 x"] + ["take 0 0 x"] * many) + "\n", many)

    def test_with_no_room(self):
        self.check("take 1 0 x\n\n", None)
        self.check("take 1 0 x\ntake 0 0 x\n", None)
        self.check("send 1 0 5; take 1 0 x\ntake 0 1 x; send 0 0 5\n", None)
        self.check("all\ntake 0 0 x\n", None)
        self.check("post p 1 0 x; wait p\n\n", None)

    def test_cases(self):
        self.check("send 1 0 5\ntake 0 0 x; case x 5 {} {take 0 0 x}\n", 0)
        self.check("send 1 0 5\ntake 0 0 x; case x 6 {} {take 0 0 x}\n", None)

    def test_at_random(self):
        seen = {}
        for seed in range(300):
            program = random_program(seed, False)
            rooms = [room for room in list(range(42)) + [99, None] if is_done(program, room)]
            self.assertEqual(room_needed(program), rooms[0] if rooms else None, program)
            seen[room_needed(program)] = seen.get(room_needed(program), 0) + 1
        self.assertLessEqual({None, 0, 1, 2}, set(seen))


class Refusals(unittest.TestCase):
    def test_wild_takes(self):
        take, post = ("take", None, 0, "x"), ("post", "t", None, 0, "x")
        for row in (take, post, ("take", None, None, "x"), ("post", "t", None, None, "x"), ("case", "x", 1, (take,), ()),
                    ("case", "x", 0, (), (post,))) + nested(3, (take,)) + nested(4, (post,)):
            for program in (((row,), ()), ((), (row,)), ((("tell", 1), row), ()), ((row,) * 6, ()), ((row,) * 5, (row,) * 2)):
                with self.assertRaises(Wild):
                    room_needed(program)

    def test_more_than_six_are_wild_alike(self):
        with self.assertRaises(Wild):
            room_needed(((("take", None, 0, "x"),) * 20, ()))

    def test_any_mark_is_not_wild(self):
        self.assertEqual(room_needed(((("send", 1, 3, 1),), (("take", 0, None, "x"),))), 0)
        self.assertEqual(room_needed(((("send", 1, 3, 1),), (("post", "t", 0, None, "x"),))), 0)

    def test_no_programs(self):
        for thing in OTHER_THINGS + (((("take", None, 0, "x"),),), ((("take", None, 0, "x"),) * 41, ()),
                                     ((("take", None, 0, "X"),), ()), [(("take", None, 0, "x"),), ()]):
            with self.assertRaises(BadProgram):
                room_needed(thing)


if __name__ == "__main__":
    unittest.main()
