"""The refusals of the program: each stands right under HallError, none under another one."""

# A list may hold itself: so a copy goes down no farther than this.
MOST_DEEP = 6


def own_copy(thing, deep):
    # What was handed in may be changed later; what an error tells stays.
    if deep == 0:
        return thing
    if isinstance(thing, list):
        return [own_copy(part, deep - 1) for part in thing]
    if isinstance(thing, tuple):
        return tuple([own_copy(part, deep - 1) for part in thing])
    if isinstance(thing, dict):
        return dict([(key, own_copy(thing[key], deep - 1)) for key in thing])
    return thing


class HallError(ValueError):
    pass


class BadName(HallError):
    pass


class BadNumber(HallError):
    pass


class BadNeeds(HallError):
    pass


class BadPlan(HallError):
    pass


class Twice(HallError):
    pass


class Busy(HallError):
    pass


class Gone(HallError):
    pass


class BadTerm(HallError):
    pass


class NoAlarm(HallError):
    pass


class BadStep(HallError):
    pass


class BadState(HallError):
    pass


class BadTurn(HallError):
    pass


class BadBuilders(HallError):
    pass


class NoJob(HallError):
    def __init__(self, name):
        # What was asked for may be of any kind, and not each kind can be written
        # into a text (a number may have too many figures): so the words leave it out.
        HallError.__init__(self, "no job has the name that was asked for")
        self.name = own_copy(name, MOST_DEEP)


class Ring(HallError):
    def __init__(self, names):
        # Without this call the error would keep the very list that was handed in.
        HallError.__init__(self, f"jobs need one another all round: {names!r}")
        self.names = list(names)


class BadLine(HallError):
    def __init__(self, place):
        HallError.__init__(self, f"bad line at place {place}")
        self.place = place


class BadBook(HallError):
    def __init__(self, place):
        HallError.__init__(self, f"bad entry of a book at place {place}")
        self.place = place


class BadShot(HallError):
    def __init__(self, place):
        HallError.__init__(self, f"bad line of a shot at place {place}")
        self.place = place


class BadEvent(HallError):
    def __init__(self, place):
        HallError.__init__(self, f"bad event at place {place}")
        self.place = place
