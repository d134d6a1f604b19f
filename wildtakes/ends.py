"""All ends of a program: what its takes can meet, and whether it can get stuck."""

from wildtakes.errors import TooMany
from wildtakes.programs import check_program, wild_takes
from wildtakes.replays import told_meetings
from wildtakes.runs import Run, check_room

MOST_WILD = 6


def check_choices(program, room):
    """Refuses what is no program, what is no room, and programs with too many wild takes."""
    check_program(program)
    check_room(room)
    if wild_takes(program) > MOST_WILD:
        raise TooMany("the program has more than 6 wild takes")


def settle(run):
    """Does all events until none but meetings of wild takes are left.

    An event that is no such meeting stays one until it is done, whatever else is done, and the run stands the same
    by either order. So it leaves no choice, and doing it first loses no end.
    """
    events = run.events_within({})
    while events:
        for event in events:
            run.carry_out(event)
        events = run.events_within({})


def settled_behind(run, event):
    """A twin of a run that has done one more event, and is settled."""
    other = run.twin()
    other.carry_out(event)
    settle(other)
    return other


def ends(program, *, room=0):
    """The list of all ends to which some order of events comes, rising by their texts."""
    check_choices(program, room)
    run = Run(program, room=room)
    settle(run)
    found = {}
    # How a settled run stands follows from which meetings its wild takes had, not from their order: so each
    # choice of such meetings is gone on from once.
    seen = {}
    pending = [(run, ())]
    while pending:
        run, met = pending.pop()
        events = run.events()
        if len(events) == 0:
            found[run.result()] = True
        for event in events:
            key = tuple(sorted(met + (event,)))
            if key not in seen:
                seen[key] = True
                pending.append((settled_behind(run, event), key))
    return sorted(found, key=str)


def partners(program, *, room=0):
    """A dict from (taker, take's number) to the rising list of all (sender, send's number) that it can meet."""
    met = {}
    for end in ends(program, room=room):
        for sender, send, taker, take in told_meetings(end):
            met.setdefault((taker, take), {})[(sender, send)] = True
    return {pair: sorted(met[pair]) for pair in sorted(met)}


def can_stick(program, *, room=0):
    """Whether some run of a program ends stuck; then a hand has rows left, the one in which it waits at least."""
    return any([part[3] > 0 for end in ends(program, room=room) for part in end])
