"""Runs that are played again from their meetings alone."""

from wildtakes.errors import BadMeetings, BadOrder
from wildtakes.programs import check_program, is_whole
from wildtakes.runs import Run, check_room

MEETING_LENGTH = 4


def is_from_0(thing):
    """Whether it is a whole number from 0 on, as hands, sends, takes and places are numbered."""
    return is_whole(thing) and thing >= 0


def is_meeting(thing):
    """Whether it has the form of a meeting, also of one that can't be."""
    return isinstance(thing, tuple) and len(thing) == MEETING_LENGTH and all([is_from_0(part) for part in thing])


def check_meetings(thing):
    """Refuses what is no list of meetings."""
    if not isinstance(thing, list) or not all([is_meeting(part) for part in thing]):
        raise BadMeetings("meetings are a list of tuples of four whole numbers from 0 on")


def check_order(thing):
    """Refuses what is no order."""
    if not isinstance(thing, tuple) or not all([is_from_0(part) for part in thing]):
        raise BadOrder("an order is a tuple of whole numbers from 0 on")


def told_meetings(end):
    """The rising list of all meetings of an end."""
    return sorted([(sender, send, taker, take) for taker, part in enumerate(end) for take, sender, send in part[2]])


def chosen_event(events, order, step):
    """The event that the order chooses for a step, 0 standing behind its end."""
    number = order[step] if step < len(order) else 0
    return events[number % len(events)]


def play(program, meetings, *, room=0, order=()):
    """The end of a run in which wild takes meet only as is listed, its steps chosen by the order."""
    check_program(program)
    check_meetings(meetings)
    check_room(room)
    check_order(order)
    listed = {meeting: True for meeting in meetings}
    run = Run(program, room=room)
    events = run.events_within(listed)
    while events:
        run.carry_out(chosen_event(events, order, len(run)))
        events = run.events_within(listed)
    # Meetings that aren't listed may still be open to it: so this is its end only as it is played here.
    return run.result()
