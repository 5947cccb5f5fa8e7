"""How jobs stand: states, which never change, and the steps from one to another."""

from buildhall.errors import BadState, BadStep
from buildhall.forms import is_formed
from buildhall.waits import wait_after
from buildhall.words import is_name, is_whole

FORMS = (
    ("blocked", "left"),
    ("ready", "number"),
    ("leased", "number", "number"),
    ("resting", "number", "number"),
    ("done", "number", "number", "number"),
    ("broken", "number", "name"),
    ("cut", "number"),
)


class State:
    def word(self):
        return self.told()[0]

    def is_over(self):
        return False

    def count_fails(self):
        return 0

    def told(self):
        # Each kind of state tells its own; one by itself is none of these.
        return ("state",)

    def freed(self):
        raise BadStep("only a blocked job is freed")

    def leased(self, number):
        raise BadStep("only a ready job is leased")

    def ended(self, turn):
        raise BadStep("only a leased job is done")

    def failed(self, job, turn, why):
        raise BadStep("only a leased job fails")

    def rested(self):
        raise BadStep("only a resting job has rested")

    def cut_off(self, need):
        raise BadStep("only a blocked job is cut off")


class Open(State):
    pass


class Over(State):
    def is_over(self):
        return True


class Blocked(Open):
    def __init__(self, left):
        self.left = left

    def told(self):
        return ("blocked", self.left)

    def freed(self):
        return Ready(0) if self.left == 1 else Blocked(self.left - 1)

    def cut_off(self, need):
        return Cut(need)


class Ready(Open):
    def __init__(self, fails):
        self.fails = fails

    def count_fails(self):
        return self.fails

    def told(self):
        return ("ready", self.fails)

    def leased(self, number):
        return Leased(self.fails, number)


class Leased(Open):
    def __init__(self, fails, number):
        self.fails = fails
        self.number = number

    def count_fails(self):
        return self.fails

    def told(self):
        return ("leased", self.fails, self.number)

    def ended(self, turn):
        return Done(self.fails, self.number, turn)

    def failed(self, job, turn, why):
        fails = self.fails + 1
        if fails == job.tries:
            return Broken(fails, why)
        wait = wait_after(job, fails)
        return Ready(fails) if wait == 0 else Resting(fails, turn + wait)


class Resting(Open):
    def __init__(self, fails, until):
        self.fails = fails
        self.until = until

    def count_fails(self):
        return self.fails

    def told(self):
        return ("resting", self.fails, self.until)

    def rested(self):
        return Ready(self.fails)


class Done(Over):
    def __init__(self, fails, number, turn):
        self.fails = fails
        self.number = number
        self.turn = turn

    def count_fails(self):
        return self.fails

    def told(self):
        return ("done", self.fails, self.number, self.turn)


class Broken(Over):
    def __init__(self, fails, why):
        self.fails = fails
        self.why = why

    def count_fails(self):
        return self.fails

    def told(self):
        return ("broken", self.fails, self.why)


class Cut(Over):
    def __init__(self, need):
        self.need = need

    def told(self):
        return ("cut", self.need)


def first_state(job):
    return Blocked(len(job.needs)) if job.needs else Ready(0)


def is_told_part(thing, sort):
    # What a state holds has no most.
    if sort == "name":
        return is_name(thing)
    return is_whole(thing) and thing >= (1 if sort == "left" else 0)


def state_of(told):
    if not is_formed(told, FORMS, is_told_part):
        raise BadState("no state tells this")
    word = told[0]
    if word == "blocked":
        return Blocked(told[1])
    if word == "ready":
        return Ready(told[1])
    if word == "leased":
        return Leased(told[1], told[2])
    if word == "resting":
        return Resting(told[1], told[2])
    if word == "done":
        return Done(told[1], told[2], told[3])
    if word == "broken":
        return Broken(told[1], told[2])
    return Cut(told[1])
