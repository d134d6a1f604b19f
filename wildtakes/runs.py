"""Runs: a program done step by step, with some room for things on their way."""

from wildtakes.errors import BadRoom, NoEvent, NotEnded
from wildtakes.hands import Hand, do_row, fits
from wildtakes.programs import check_program, is_whole

MOST_ROOM = 99


def is_room(thing):
    """Whether it is a room; None is one for any many things."""
    return thing is None or is_whole(thing) and 0 <= thing <= MOST_ROOM


def check_room(thing):
    """Refuses what is no room."""
    if not is_room(thing):
        raise BadRoom("a room is a whole number from 0 to 99, or None")


def has_truth(event):
    """Whether a truth stands in a tuple, which would pass for the number 0 or 1."""
    return any([isinstance(part, bool) for part in event])


def first_thing(way, sender, take):
    """The first thing on the way from a hand that fits a take, which is one of them at least."""
    return [thing for thing in way if fits(take, sender, thing[1])][0]


class Run:
    """A program that is done step by step, by the events that its user chooses."""

    def __init__(self, program, *, room=0):
        check_program(program)
        check_room(room)
        self.room = room
        self.hands = [Hand(script) for script in program]
        numbers = list(range(len(program)))
        # (Sender, taker) to the list of (send's number, mark, value), in the order in which they were sent.
        self.ways = {(one, other): [] for one in numbers for other in numbers if one != other}
        self.history = []

    def __len__(self):
        return len(self.history)

    def twin(self):
        """A run that stands just so, and goes on by itself."""
        # What it is made of doesn't matter, as all that it holds is given anew; so the least program will do.
        other = Run(((), ()), room=self.room)
        other.hands = [hand.double() for hand in self.hands]
        other.ways = {pair: list(way) for pair, way in self.ways.items()}
        other.history = list(self.history)
        return other

    def events(self):
        """The list of all that can come next."""
        goes = [("go", number) for number, hand in enumerate(self.hands) if hand.can_go()]
        meets = []
        for sender, taker in self.ways:
            meets.extend(self.meets_on(sender, taker))
        return goes + sorted(meets)

    def events_within(self, listed):
        """The events that can come if wild takes meet only as is listed, in a dict of meetings."""
        return [event for event in self.events()
                if event[0] == "go" or event[1:] in listed or not self.is_open_to_any(event[3], event[4])]

    def is_open_to_any(self, taker, take):
        """Whether an open take is wild."""
        return self.hands[taker].posted[take][0] is None

    def meets_on(self, sender, taker):
        """The meetings that can be of things on one way.

        Nothing is ahead of either side just if the take is the first that fits the thing, and the thing the
        first that fits the take.
        """
        way = self.ways[(sender, taker)]
        hand = self.hands[taker]
        meets = []
        for thing in way:
            take = hand.first_take(sender, thing[1])
            if take is not None and first_thing(way, sender, hand.posted[take]) == thing:
                meets.append(("meet", sender, thing[0], taker, take))
        return meets

    def do(self, event):
        """Does one of the events."""
        if not isinstance(event, tuple) or has_truth(event) or event not in self.events():
            raise NoEvent("this is none of the events")
        self.carry_out(event)

    def carry_out(self, event):
        """Does what is known to be one of the events."""
        if event[0] == "go":
            self.step(event[1])
        else:
            self.meet(event[1], event[2], event[3], event[4])
        self.pass_all()
        self.history.append(event)

    def step(self, number):
        """Does the next row of a hand."""
        hand = self.hands[number]
        row = hand.rows[0]
        if row[0] == "send":
            self.send(number, row)
        else:
            do_row(hand, row)

    def send(self, sender, row):
        """Puts a thing on its way; its sender waits if there is no room."""
        hand = self.hands[sender]
        way = self.ways[(sender, row[1])]
        # A sender waits until its thing is let go or met: so all that is on the way ahead was let go.
        is_full = self.room is not None and len(way) >= self.room
        way.append((hand.sends_done, row[2], hand.worth(row[3])))
        if is_full:
            hand.waiting = ("send", row[1], hand.sends_done)
        else:
            hand.go_on()
        hand.sends_done += 1

    def meet(self, sender, send, taker, take):
        """Brings a thing and a take together."""
        way = self.ways[(sender, taker)]
        met = [thing for thing in way if thing[0] == send][0]
        way.remove(met)
        self.hands[taker].met.append((take, sender, send))
        self.hands[taker].receive(take, met[2])
        giver = self.hands[sender]
        # Either its own thing was met, or one ahead, and that makes room: it goes on in both cases.
        if giver.waiting is not None and giver.waiting[:2] == ("send", taker):
            giver.go_on()

    def pass_all(self):
        """Lets the hands that wait in an all go on, if no other hand is still to come."""
        if all([hand.waits_in_all() or hand.has_ended() for hand in self.hands]):
            for hand in self.hands:
                if hand.waits_in_all():
                    hand.go_on()

    def state(self):
        """How the run stands: `going`, `done` or `stuck`."""
        if len(self.events()) > 0:
            return "going"
        return "done" if all([hand.has_ended() for hand in self.hands]) else "stuck"

    def end(self):
        """The end to which the run came."""
        if self.state() == "going":
            raise NotEnded("the run can go on")
        return self.result()

    def result(self):
        """What its end would be, if nothing more came."""
        return tuple([hand.result() for hand in self.hands])

    def boxes(self, hand):
        """A dict of all boxes of a hand that aren't 0."""
        return self.hands[hand].filled()

    def told(self, hand):
        """The list of what a hand told."""
        return list(self.hands[hand].said)

    def open_takes(self, hand):
        """The rising list of the numbers of a hand's open takes."""
        return list(self.hands[hand].posted)

    def on_way(self, sender, taker):
        """The list of (send's number, mark, value) of the things on one way."""
        return list(self.ways.get((sender, taker), []))
