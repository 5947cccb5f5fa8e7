"""Events: what happens to builders, and their lines."""

from buildhall.errors import BadEvent, BadLine
from buildhall.forms import is_formed, is_part, parts_line, parts_of

MOST_MUTE = 1000

FORMS = (
    ("fall", "turn", "name"),
    ("come", "turn", "name"),
    ("slip", "turn", "name", "name"),
    ("mute", "turn", "name", "left"),
)


def is_short(event):
    """Whether a well formed event mutes for no more turns than it may."""
    return event[0] != "mute" or event[3] <= MOST_MUTE


def is_event(thing):
    return is_formed(thing, FORMS, is_part) and is_short(thing)


def event_line(event):
    return parts_line(event)


def event_of(line):
    event = parts_of(line, FORMS)
    if not is_short(event):
        raise BadLine(0)
    return event


def need_events(events, names):
    if not isinstance(events, list):
        raise BadEvent(0)
    turn = 0
    for place, event in enumerate(events):
        if not is_event(event) or event[2] not in names or event[1] < turn:
            raise BadEvent(place)
        turn = event[1]
