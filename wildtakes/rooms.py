"""How much room a program needs for things on their way."""

from wildtakes.ends import can_stick
from wildtakes.errors import Wild
from wildtakes.programs import wild_takes


def room_needed(program):
    """The least room with which a program without wild takes ends done; None if it does with none."""
    if wild_takes(program) > 0:
        raise Wild("the program has a wild take")
    # More room never makes such a program stuck: so what is stuck with any many is so with each room.
    if can_stick(program, room=None):
        return None
    room = 0
    while can_stick(program, room=room):
        room += 1
    return room
