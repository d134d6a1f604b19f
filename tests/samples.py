"""What several tests use: things that are no programs, programs at random, and ways to go through a run."""

import random

from wildtakes.runs import Run

ROOMS = (0, 1, 2, 99, None)

OTHER_THINGS = (
    None, True, False, 0, 1, -1, 2, 10 ** 14, "", "a", "abc", "go", "send 1 0 0\n", [], ["a"], [()], [(), ()],
    (), ((),), ("a", "b"), (1, 2), (None, None), (True, False), {}, {"a": 1}, {0: (), 1: ()},
    ([], []), ((), []), ([], ()), ((), None), ((), {}), ((), "tell 1"), ((), ""), ((), 0), ((), False),
)


def with_rows(*rows):
    """A program of three hands, the first of which has these rows."""
    return (tuple(rows), (), ())


def nested(depth, innermost=()):
    """Rows with as many cases within one another, by turns in the first and in the second place."""
    rows = innermost
    for level in range(depth):
        rows = (("case", "a", 0, rows, ()),) if level % 2 else (("case", "a", 0, (), rows),)
    return rows


def random_row(chance, hand, hands, wild, depth):
    """A row at random, with few marks and boxes, so that much meets."""
    others = [other for other in range(hands) if other != hand]
    whence = chance.choice(others + [None] if wild else others)
    mark = chance.choice((0, 1, None))
    box = chance.choice("xy")
    thing = chance.choice(("x", "y", 1, 2, 3))
    kind = chance.choice(("send", "take", "post", "wait", "wait", "tell", "add", "all", "case"))
    if kind == "case" and depth < 2:
        parts = [random_rows(chance, hand, hands, wild, depth + 1, chance.randrange(3)) for part in range(2)]
        return ("case", box, chance.choice((0, 1, 2)), parts[0], parts[1])
    return {
        "send": ("send", chance.choice(others), chance.choice((0, 1)), thing),
        "take": ("take", whence, mark, box),
        "post": ("post", chance.choice("pq"), whence, mark, box),
        "wait": ("wait", chance.choice("pq")),
        "add": ("add", box, thing, chance.choice(("x", "y", -1))),
        "all": ("all",),
    }.get(kind, ("tell", thing))


def random_rows(chance, hand, hands, wild, depth, many):
    return tuple(random_row(chance, hand, hands, wild, depth) for row in range(many))


def random_pair(chance, hands, wild):
    """Two hands, a send of the first, and a take or a post of the second that would have it."""
    sender, taker = chance.sample(range(hands), 2)
    mark = chance.choice((0, 1))
    whence = None if wild and chance.random() < 0.4 else sender
    would, box = chance.choice((mark, mark, None)), chance.choice("xy")
    take = chance.choice((("take", whence, would, box), ("post", chance.choice("pq"), whence, would, box)))
    return sender, ("send", taker, mark, chance.choice(("x", "y", 1, 2, 3))), taker, take


def random_program(seed, wild):
    """A small program at random, with takes from any hand or without: pairs that could meet, and other rows between."""
    chance = random.Random(seed)
    hands = chance.choice((2, 2, 3, 3, 4))
    scripts = [[] for hand in range(hands)]
    for turn in range(chance.randrange(8)):
        sender, send, taker, take = random_pair(chance, hands, wild)
        scripts[sender].append(send)
        scripts[taker].append(take)
        if chance.random() < 0.5:
            hand = chance.randrange(hands)
            scripts[hand].append(random_row(chance, hand, hands, wild, 0))
    return tuple(tuple(script) for script in scripts)


def run_through(program, room, choose):
    """A run that has ended, each event chosen out of the list of them."""
    run = Run(program, room=room)
    events = run.events()
    while events:
        run.do(choose(events))
        events = run.events()
    return run


def do_all(run, *events):
    """Does events, where a number stands for a step of that hand, and four for a meeting."""
    for event in events:
        run.do(("go", event) if isinstance(event, int) else ("meet",) + event)
    return run
