"""What several tests use: things that are no programs, programs at random, and ways to go through a run."""

import random

from wildtakes.runs import Run

ROOMS = (0, 1, 2, 99, None)

OTHER_THINGS = (
    None, True, False, 0, 1, -1, 2, 10 ** 14, "", "a", "abc", "go", "send 1 0 0\n", [], ["a"], [()], [(), ()],
    (), ((),), ("a", "b"), (1, 2), (None, None), (True, False), {}, {"a": 1}, {0: (), 1: ()},
    ([], []), ((), []), ([], ()), ((), None), ((), {}), ((), "tell 1"), ((), ""), ((), 0), ((), False),
)


def with_rows(*rows):
    """A program of three hands, the first of which has these rows."""
    return (tuple(rows), (), ())


def nested(depth, innermost=()):
    """Rows with as many cases within one another, by turns in the first and in the second place."""
    rows = innermost
    for level in range(depth):
        rows = (("case", "a", 0, rows, ()),) if level % 2 else (("case", "a", 0, (), rows),)
    return rows


def random_row(chance, hand, hands, wild, depth):
    """A row at random, with few marks and boxes, so that much meets."""
    others = [other for other in range(hands) if other != hand]
    whence = chance.choice(others + [None] if wild else others)
    mark = chance.choice((0, 1, None))
    box = chance.choice("xy")
    thing = chance.choice(("x", "y", 1, 2, 3))
    kind = chance.choice(("send", "take", "post", "wait", "wait", "tell", "add", "all", "case"))
    if kind == "case" and depth < 2:
        parts = [random_rows(chance, hand, hands, wild, depth + 1, chance.randrange(3)) for part in range(2)]
        return ("case", box, chance.choice((0, 1, 2)), parts[0], parts[1])
    return {
        "send": ("send", chance.choice(others), chance.choice((0, 1)), thing),
        "take": ("take", whence, mark, box),
        "post": ("post", chance.choice("pq"), whence, mark, box),
        "wait": ("wait", chance.choice("pq")),
        "add": ("add", box, thing, chance.choice(("x", "y", -1))),
        "all": ("all",),
    }.get(kind, ("tell", thing))


def random_rows(chance, hand, hands, wild, depth, many):
    return tuple(random_row(chance, hand, hands, wild, depth) for row in range(many))


def random_pair(chance, hands, wild):
    """Two hands, a send of the first, and a take or a post of the second that would have it."""
    sender, taker = chance.sample(range(hands), 2)
    mark = chance.choice((0, 1))
    whence = None if wild and chance.random() < 0.4 else sender
    would, box = chance.choice((mark, mark, None)), chance.choice("xy")
    take = chance.choice((("take", whence, would, box), ("post", chance.choice("pq"), whence, would, box)))
    return sender, ("send", taker, mark, chance.choice(("x", "y", 1, 2, 3))), taker, take


def random_program(seed, wild):
    """A small program at random, with takes from any hand or without: pairs that could meet, and other rows between."""
    chance = random.Random(seed)
    hands = chance.choice((2, 2, 3, 3, 4))
    scripts = [[] for hand in range(hands)]
    for turn in range(chance.randrange(8)):
        sender, send, taker, take = random_pair(chance, hands, wild)
        scripts[sender].append(send)
        scripts[taker].append(take)
        if chance.random() < 0.5:
            hand = chance.randrange(hands)
            scripts[hand].append(random_row(chance, hand, hands, wild, 0))
    return tuple(tuple(script) for script in scripts)


def random_wild_take(chance, taker, hands, box):
    """A take or a post, mostly a wild one."""
    others = [other for other in range(hands) if other != taker]
    whence = None if chance.random() < 0.8 else chance.choice(others)
    mark = chance.choice((0, 0, 1, None, None))
    if chance.random() < 0.6:
        return ("take", whence, mark, box)
    return ("post", chance.choice("pq"), whence, mark, box)


def random_answer(chance, taker, hands, box):
    """A row behind a wild take that goes by what it met, or lets others go on."""
    others = [other for other in range(hands) if other != taker]
    branches = [
        (random_wild_take(chance, taker, hands, "z"),), (("send", chance.choice(others), 1, box),), (("tell", box),), (),
    ]
    return chance.choice((
        ("case", box, chance.choice((1, 2, 3)), chance.choice(branches), chance.choice(branches)),
        ("send", chance.choice(others), 1, box), ("tell", box), ("wait", "p"), ("wait", "q"), ("all",),
    ))


def random_wild_program(seed):
    """A program at random in which several hands send to one or two that take mostly wildly."""
    chance = random.Random(seed)
    hands = chance.choice((3, 3, 4, 5))
    takers = chance.sample(range(hands), chance.choice((1, 1, 2)))
    scripts = [[] for hand in range(hands)]
    for turn in range(chance.choice((2, 3, 4))):
        taker, box = chance.choice(takers), chance.choice("xy")
        scripts[taker].append(random_wild_take(chance, taker, hands, box))
        if chance.random() < 0.5:
            scripts[taker].append(random_answer(chance, taker, hands, box))
    for turn in range(chance.choice((3, 4, 5))):
        taker = chance.choice(takers)
        sender = chance.choice([hand for hand in range(hands) if hand != taker])
        scripts[sender].append(("send", taker, chance.choice((0, 0, 1)), chance.choice((1, 2, 3, "x"))))
        if chance.random() < 0.3:
            scripts[sender].append(chance.choice((("take", taker, 1, "x"), ("all",), ("tell", "x"))))
    return tuple(tuple(script) for script in scripts)


def run_through(program, room, choose):
    """A run that has ended, each event chosen out of the list of them."""
    run = Run(program, room=room)
    events = run.events()
    while events:
        run.do(choose(events))
        events = run.events()
    return run


def do_all(run, *events):
    """Does events, where a number stands for a step of that hand, and four for a meeting."""
    for event in events:
        run.do(("go", event) if isinstance(event, int) else ("meet",) + event)
    return run
