"""Stuck runs: what each hand waits for, and a ring of hands that wait for one another."""

from wildtakes.errors import NotEnded
from wildtakes.runs import Run


def check_stuck(run):
    """Refuses what is no stuck run."""
    if not isinstance(run, Run) or run.state() != "stuck":
        raise NotEnded("this is no run that is stuck")


def hands_to_come(run):
    """The hands that have neither come to an all nor ended."""
    return tuple([number for number, hand in enumerate(run.hands)
                  if not hand.waits_in_all() and not hand.has_ended()])


def senders_of(run, taker, take):
    """The hands from which an open take could still meet a send."""
    whence = run.hands[taker].posted[take][0]
    if whence is None:
        return tuple([number for number in range(len(run.hands)) if number != taker])
    return (whence,)


def awaited(run, number):
    """The hands for which a hand that waits does so."""
    waiting = run.hands[number].waiting
    if waiting[0] == "send":
        return (waiting[1],)
    if waiting[0] == "all":
        return hands_to_come(run)
    return senders_of(run, number, waiting[1])


def waits(run):
    """The list of (hand, word, hands) of all hands of a stuck run that have not ended."""
    check_stuck(run)
    # In a stuck run each hand that has rows waits, or it could go.
    return [(number, hand.waiting[0], awaited(run, number))
            for number, hand in enumerate(run.hands) if not hand.has_ended()]


def groups(hands):
    """All rising tuples of some of these hands, the shortest first, then the least."""
    found = [()]
    for hand in hands:
        found = found + [group + (hand,) for group in found]
    return sorted(found[1:], key=lambda group: (len(group), group))


def is_ring(group, stuck_for):
    """Whether each of the group waits for one of it at least, and for no other hand that has not ended."""
    return all([len(stuck_for[hand]) > 0 and all([other in group for other in stuck_for[hand]]) for hand in group])


def ring(run):
    """The least tuple of hands that keep one another stuck; else of the first that only ended ones keep so."""
    told = waits(run)
    stuck = [hand for hand, word, others in told]
    # Each stuck hand to those it waits for that are stuck, too: the others of them have ended.
    stuck_for = {hand: [other for other in others if other in stuck] for hand, word, others in told}
    for group in groups(stuck):
        if is_ring(group, stuck_for):
            return group
    return (min([hand for hand in stuck if len(stuck_for[hand]) == 0]),)
