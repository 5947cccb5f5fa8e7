"""Books that lead a hall on, deed by deed."""

from buildhall.entries import is_entry
from buildhall.errors import BadBook, HallError
from buildhall.halls import Hall, twin


def replay(plan, term, entries):
    hall = Hall(plan, term)
    lead(hall, entries)
    return hall


def go_on(hall, entries):
    # A twin goes ahead, so that a book that is refused leaves the hall as it was.
    lead(twin(hall), entries)
    lead(hall, entries)


def lead(hall, entries):
    if not isinstance(entries, list):
        raise BadBook(0)
    # The list may be the hall's own book, which grows on the way.
    rows = list(entries)
    at = 0
    while at < len(rows):
        wrote = deed_by(hall, rows[at])
        if not wrote:
            raise BadBook(at)
        check_same(rows, at, wrote)
        at += len(wrote)


def check_same(rows, at, wrote):
    for entry, own in zip(rows[at:at + len(wrote)], wrote):
        # To Python True is 1 too, so what is like an entry may be none.
        if not is_entry(entry) or entry != own:
            raise BadBook(at)
        at += 1


def deed_by(hall, entry):
    """What the deed that begins with this entry writes: nothing where none can be done."""
    if not is_entry(entry):
        return []
    try:
        return deed(hall, entry)
    except HallError:
        return []


def deed(hall, entry):
    word = entry[0]
    if word == "turn":
        # One that isn't later is refused or writes nothing; where an alarm rings ahead
        # of it, the turn of that is written first.
        return hall.pass_on(entry[1] - hall.turn)
    if word == "lease":
        return hall.ask(entry[3])
    if word == "renew":
        return hall.renew(entry[1])
    if word == "done":
        return hall.done(entry[1])
    if word == "fail":
        return hall.fail(entry[1], entry[2])
    return []
