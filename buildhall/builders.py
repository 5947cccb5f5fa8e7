"""Builders: each is at a task, and acts by it once a turn."""

from buildhall.errors import Busy, Gone


class Task:
    def act(self, builder, hall):
        return self


class Idle(Task):
    def act(self, builder, hall):
        if builder.is_mute(hall):
            return self
        try:
            wrote = hall.ask(builder.name)
        except Busy:
            # A lease that the name has from elsewhere is none that it was told.
            return self
        if not wrote:
            return self
        lease = wrote[0]
        return AtWork(lease[1], hall.plan.job_at(lease[2]).span)


class AtWork(Task):
    def __init__(self, number, left):
        self.number = number
        self.left = left

    def act(self, builder, hall):
        left = max(self.left - 1, 0)
        still = AtWork(self.number, left)
        if builder.is_mute(hall):
            return still
        try:
            self.tell(hall, left)
        except Gone:
            return Idle()
        return still if left > 0 else Idle()

    def tell(self, hall, left):
        if left > 0:
            hall.renew(self.number)
        else:
            hall.done(self.number)


class Fallen(Task):
    pass


class Builder:
    def __init__(self, name):
        self.name = name
        self.task = Idle()
        self.quiet = 0

    def is_mute(self, hall):
        return hall.turn < self.quiet

    def act(self, hall):
        self.task = self.task.act(self, hall)

    def falls(self):
        self.task = Fallen()

    def comes(self, hall):
        if isinstance(self.task, Fallen):
            self.task = Idle()
            self.quiet = 0
            hall.again(self.name)

    def slips(self, hall, why):
        if isinstance(self.task, AtWork) and not self.is_mute(hall):
            fail_if_open(hall, self.task.number, why)
            self.task = Idle()

    def mutes(self, hall, turns):
        self.quiet = max(self.quiet, hall.turn + turns)


def fail_if_open(hall, number, why):
    try:
        hall.fail(number, why)
    except Gone:
        # It ran out meanwhile, which was a failing of its own.
        return
