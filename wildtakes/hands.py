"""The hands of a run: what each has left to do, holds, has told, and waits for."""


class Hand:
    """One hand. The row in which it waits stays the first of its rows until it goes on.

    It waits for nothing (None), or for one of these: ("send", taker, send's number), ("take", take's number),
    ("wait", take's number), ("all",).
    """

    def __init__(self, rows):
        self.rows = rows
        self.waiting = None
        self.held = {}
        self.said = []
        self.sends_done = 0
        self.takes_done = 0
        # Take's number to (whence, mark, box); numbers rise, so the dict's order is that of the takes.
        self.posted = {}
        # Ticket to the number of its last post, until that is waited for.
        self.tickets = {}
        # Take's number to (box, value), of posts that met and were not waited for.
        self.arrived = {}
        self.met = []

    def double(self):
        """A hand that stands just so."""
        other = Hand(self.rows)
        other.waiting = self.waiting
        other.held = dict(self.held)
        other.said = list(self.said)
        other.sends_done = self.sends_done
        other.takes_done = self.takes_done
        other.posted = dict(self.posted)
        other.tickets = dict(self.tickets)
        other.arrived = dict(self.arrived)
        other.met = list(self.met)
        return other

    def has_ended(self):
        """Whether it has no rows left; then it waits for nothing either."""
        return len(self.rows) == 0

    def can_go(self):
        """Whether it has rows and doesn't wait."""
        return self.waiting is None and not self.has_ended()

    def waits_in_all(self):
        """Whether it waits for all hands."""
        return self.waiting == ("all",)

    def go_on(self):
        """Leaves its first row behind, which is done."""
        self.waiting = None
        self.rows = self.rows[1:]

    def worth(self, thing):
        """The value of a thing: a number's its own, a box's what lies in it now."""
        return self.held.get(thing, 0) if isinstance(thing, str) else thing

    def filled(self):
        """A new dict of its boxes that aren't 0, rising."""
        return {box: self.held[box] for box in sorted(self.held) if self.held[box] != 0}

    def add_take(self, whence, mark, box):
        """Makes a take open, and tells its number."""
        number = self.takes_done
        self.posted[number] = (whence, mark, box)
        self.takes_done += 1
        return number

    def first_take(self, sender, mark):
        """The number of its first open take that fits a thing of this mark from there; None if there is none."""
        for number, take in self.posted.items():
            if fits(take, sender, mark):
                return number
        return None

    def receive(self, number, value):
        """Closes an open take with the value that it met."""
        box = self.posted.pop(number)[2]
        if self.waiting in (("take", number), ("wait", number)):
            self.held[box] = value
            self.go_on()
        else:
            self.arrived[number] = (box, value)

    def result(self):
        """Its part of a run's end."""
        return (tuple(self.filled().items()), tuple(self.said), tuple(sorted(self.met)), len(self.rows))


def fits(take, sender, mark):
    """Whether an open take would have a thing of this mark from this hand."""
    return take[0] in (None, sender) and take[1] in (None, mark)


def do_take(hand, row):
    """Opens a take, and waits for it."""
    hand.waiting = ("take", hand.add_take(row[1], row[2], row[3]))


def do_post(hand, row):
    """Opens a take that isn't waited for; the ticket is for this one from now on."""
    hand.tickets[row[1]] = hand.add_take(row[2], row[3], row[4])
    hand.go_on()


def do_wait(hand, row):
    """Waits for the ticket's post, if there is one still to be waited for."""
    if row[1] not in hand.tickets:
        hand.go_on()
        return
    number = hand.tickets.pop(row[1])
    if number in hand.arrived:
        box, value = hand.arrived.pop(number)
        hand.held[box] = value
        hand.go_on()
    else:
        hand.waiting = ("wait", number)


def do_tell(hand, row):
    """Tells a value."""
    hand.said.append(hand.worth(row[1]))
    hand.go_on()


def do_add(hand, row):
    """Puts a sum into a box."""
    hand.held[row[1]] = hand.worth(row[2]) + hand.worth(row[3])
    hand.go_on()


def do_case(hand, row):
    """Puts the chosen rows in the place of the case."""
    chosen = row[3] if hand.worth(row[1]) == row[2] else row[4]
    hand.rows = chosen + hand.rows[1:]


def do_all(hand, row):
    """Waits for all hands; the run tells when they have come."""
    hand.waiting = ("all",)


DEEDS = {
    "take": do_take,
    "post": do_post,
    "wait": do_wait,
    "tell": do_tell,
    "add": do_add,
    "case": do_case,
    "all": do_all,
}


def do_row(hand, row):
    """Does a row that no other hand sees at once, so any but a send."""
    deed = DEEDS[row[0]]
    deed(hand, row)
