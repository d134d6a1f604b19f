"""A run told once more, as slowly and as near to the document's words as can be, to hold the program against.

Nothing is ever taken away here: each thing and each take stays in a list, with what has become of it.
"""


class Model:
    def __init__(self, program, room):
        self.room = room
        self.rows = [list(script) for script in program]
        self.wait = [None for script in program]
        self.box = [{} for script in program]
        self.said = [[] for script in program]
        self.things = []
        self.takes = []
        self.hands = range(len(program))

    def value(self, hand, thing):
        return self.box[hand].get(thing, 0) if isinstance(thing, str) else thing

    def sent_ahead(self, thing):
        """The things still on the way of this one that were sent ahead of it."""
        return [other for other in self.things if other["from"] == thing["from"] and other["to"] == thing["to"]
                and not other["met"] and other["number"] < thing["number"]]

    def can_be(self, thing, take):
        def fit(one, other):
            return other["whence"] in (None, one["from"]) and other["mark"] in (None, one["mark"])

        if thing["met"] or take["met"] or thing["to"] != take["taker"] or not fit(thing, take):
            return False
        if [other for other in self.sent_ahead(thing) if fit(other, take)]:
            return False
        return not [other for other in self.takes if other["taker"] == take["taker"] and not other["met"]
                    and other["number"] < take["number"] and fit(thing, other)]

    def events(self):
        goes = [("go", hand) for hand in self.hands if self.rows[hand] and self.wait[hand] is None]
        meets = [("meet", thing["from"], thing["number"], take["taker"], take["number"])
                 for thing in self.things for take in self.takes if self.can_be(thing, take)]
        return goes + sorted(meets)

    def do(self, event):
        if event[0] == "go":
            self.go(event[1])
        else:
            self.meet(*event[1:])
        self.look()

    def go(self, hand):
        row = self.rows[hand].pop(0)
        word = row[0]
        if word == "send":
            thing = {"from": hand, "number": len([one for one in self.things if one["from"] == hand]), "to": row[1],
                     "mark": row[2], "value": self.value(hand, row[3]), "met": False}
            let_go = [one for one in self.sent_ahead(thing) if one["let go"]]
            thing["let go"] = self.room is None or len(let_go) != self.room
            self.things.append(thing)
            if not thing["let go"]:
                self.wait[hand] = ("send", thing)
        elif word in ("take", "post"):
            ticket, whence, mark, box = (None,) * (word == "take") + row[1:]
            take = {"taker": hand, "number": len([one for one in self.takes if one["taker"] == hand]), "whence": whence,
                    "mark": mark, "box": box, "ticket": ticket, "met": None, "used": False}
            self.takes.append(take)
            if word == "take":
                self.wait[hand] = ("take", take)
        elif word == "wait":
            posts = [one for one in self.takes if one["taker"] == hand and one["ticket"] == row[1]]
            if posts and not posts[-1]["used"]:
                posts[-1]["used"] = True
                self.wait[hand] = ("wait", posts[-1])
        elif word == "tell":
            self.said[hand].append(self.value(hand, row[1]))
        elif word == "add":
            self.box[hand][row[1]] = self.value(hand, row[2]) + self.value(hand, row[3])
        elif word == "case":
            self.rows[hand][:0] = row[3] if self.value(hand, row[1]) == row[2] else row[4]
        else:
            self.wait[hand] = ("all", None)

    def meet(self, sender, send, taker, number):
        [thing] = [one for one in self.things if (one["from"], one["number"]) == (sender, send)]
        [take] = [one for one in self.takes if (one["taker"], one["number"]) == (taker, number)]
        thing["met"] = True
        take["met"] = (number, sender, send)
        take["value"] = thing["value"]
        waiting = self.wait[sender]
        if waiting and waiting[0] == "send" and thing["let go"] and thing in self.everything_ahead(waiting[1]):
            waiting[1]["let go"] = True

    def everything_ahead(self, thing):
        return [one for one in self.things if one["from"] == thing["from"] and one["to"] == thing["to"]
                and one["number"] < thing["number"]]

    def look(self):
        """Ends the waiting of each hand for which what it waits for has come."""
        for hand in self.hands:
            word, for_what = self.wait[hand] or (None, None)
            if word == "send" and (for_what["met"] or for_what["let go"]):
                self.wait[hand] = None
            if word in ("take", "wait") and for_what["met"]:
                self.box[hand][for_what["box"]] = for_what["value"]
                self.wait[hand] = None
        if all((self.wait[hand] or " ")[0] == "all" or not self.rows[hand] and not self.wait[hand] for hand in self.hands):
            self.wait = [None for hand in self.hands]

    def boxes(self, hand):
        return {box: value for box, value in self.box[hand].items() if value}

    def open_takes(self, hand):
        return [take["number"] for take in self.takes if take["taker"] == hand and not take["met"]]

    def on_way(self, sender, taker):
        return [(thing["number"], thing["mark"], thing["value"]) for thing in self.things
                if (thing["from"], thing["to"]) == (sender, taker) and not thing["met"]]

    def state(self):
        if self.events():
            return "going"
        return "stuck" if any(self.rows) or any(self.wait) else "done"

    def end(self):
        return tuple(
            (tuple(sorted(self.boxes(hand).items())), tuple(self.said[hand]),
             tuple(sorted(take["met"] for take in self.takes if take["taker"] == hand and take["met"])),
             len(self.rows[hand]) + (self.wait[hand] is not None))
            for hand in self.hands)

    def waits(self):
        """What each hand waits for, once the model is stuck."""
        found = []
        for hand in self.hands:
            word, for_what = self.wait[hand] or (None, None)
            if word == "send":
                found.append((hand, word, (for_what["to"],)))
            elif word == "all":
                found.append((hand, word, tuple(other for other in self.hands
                                                if self.wait[other] and self.wait[other][0] != "all")))
            elif word and for_what["whence"] is None:
                found.append((hand, word, tuple(other for other in self.hands if other != hand)))
            elif word:
                found.append((hand, word, (for_what["whence"],)))
        return found

    def is_wild(self, taker, number):
        [take] = [take for take in self.takes if (take["taker"], take["number"]) == (taker, number)]
        return take["whence"] is None

    def twin(self):
        """Another model that stands just so."""
        other = Model(self.rows, self.room)
        copies = {id(one): dict(one) for one in self.things + self.takes}
        other.wait = [wait and (wait[0], copies.get(id(wait[1]))) for wait in self.wait]
        other.box = [dict(box) for box in self.box]
        other.said = [list(said) for said in self.said]
        other.things = [copies[id(thing)] for thing in self.things]
        other.takes = [copies[id(take)] for take in self.takes]
        return other

    def key(self):
        """A text that two models share just if they stand the same, by whatever order they came to it."""
        things = sorted((thing["from"], thing["number"], str(thing)) for thing in self.things)
        takes = sorted((take["taker"], take["number"], str(take)) for take in self.takes)
        waits = [wait and (wait[0], wait[1] and wait[1]["number"]) for wait in self.wait]
        return str((self.rows, waits, [sorted(box.items()) for box in self.box], self.said, things, takes))


def every_order(program, room, most=10 ** 9):
    """All that orders of events come to, each event at each standing tried: a dict from ends to their states, and
    the meetings that were on the way. None if there are more standings than that."""
    ends, meetings, seen = {}, set(), set()
    pending = [Model(program, room)]
    while pending:
        model = pending.pop()
        if model.key() in seen:
            continue
        seen.add(model.key())
        if len(seen) > most:
            return None
        events = model.events()
        if not events:
            ends[model.end()] = model.state()
        for event in events:
            if event[0] == "meet":
                meetings.add(event[1:])
            other = model.twin()
            other.do(event)
            pending.append(other)
    return ends, meetings


def played(program, meetings, room, order):
    """The end of a model in which wild takes meet only as is listed."""
    model = Model(program, room)
    numbers = list(order)
    while True:
        events = [event for event in model.events()
                  if event[0] == "go" or not model.is_wild(*event[3:]) or event[1:] in meetings]
        if not events:
            return model.end()
        model.do(events[(numbers.pop(0) if numbers else 0) % len(events)])
