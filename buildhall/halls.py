"""The hall: it hands out jobs by leases, goes by a clock of turns, and writes a book."""

from buildhall.alarms import Alarms
from buildhall.errors import BadName, BadTurn, Busy
from buildhall.leases import Leases
from buildhall.readies import Readies
from buildhall.states import Blocked, Ready, Resting, first_state
from buildhall.words import MOST_TURN, is_among, is_name

LEASE_ENDS = 0
REST_ENDS = 1


class Hall:
    def __init__(self, plan, term=10):
        self.plan = plan
        self.turn = 0
        self.book = []
        self.leases = Leases(term)
        self.alarms = Alarms()
        self.readies = Readies()
        self.stands = [first_state(plan.job_at(place)) for place in range(plan.many())]
        for place, state in enumerate(self.stands):
            if isinstance(state, Ready):
                self.note_ready(place)

    def ask(self, worker):
        check_name(worker)
        # Ahead of whether a job is ready, as the worker may not ask at all.
        if self.leases.holder(worker) is not None:
            raise Busy("the worker has an open lease")
        place = self.readies.take()
        if place is None:
            return []
        lease = self.leases.take(place, worker, self.turn)
        self.stands[place] = self.stands[place].leased(lease[0])
        self.alarms.put(lease[4], LEASE_ENDS, lease[0])
        return self.put_down([("lease", lease[0], place, worker, lease[4])])

    def renew(self, number):
        before = self.leases.of(number)
        lease = self.leases.renew(number, self.turn)
        self.alarms.drop(before[4], LEASE_ENDS, before[0])
        self.alarms.put(lease[4], LEASE_ENDS, lease[0])
        return self.put_down([("renew", lease[0], lease[4])])

    def done(self, number):
        lease = self.close_lease(number)
        place = lease[1]
        self.stands[place] = self.stands[place].ended(self.turn)
        return self.put_down([("done", lease[0])] + self.free_behind(place))

    def fail(self, number, why):
        self.leases.of(number)
        check_name(why)
        lease = self.close_lease(number)
        return self.put_down([("fail", lease[0], why)] + self.end_try(lease[1], why))

    def again(self, worker):
        check_name(worker)
        lease = self.leases.holder(worker)
        return [] if lease is None else self.fail(lease[0], "fell")

    def pass_on(self, turns=1):
        if not is_among(turns, 0, MOST_TURN - self.turn):
            raise BadTurn(f"the clock goes on by whole turns, to {MOST_TURN} at the most")
        goal = self.turn + turns
        wrote = []
        while self.rings_by(goal):
            alarm = self.alarms.take()
            wrote.extend(self.come_to(alarm[0]))
            wrote.extend(self.ring(alarm))
        wrote.extend(self.come_to(goal))
        return self.put_down(wrote)

    def state(self, name):
        return self.stands[self.plan.place_of(name)].told()

    def states(self):
        return [state.told() for state in self.stands]

    def open_leases(self):
        return self.leases.rows()

    def next_turn(self):
        alarm = self.alarms.first()
        return None if alarm is None else alarm[0]

    def entries(self):
        return list(self.book)

    def is_ended(self):
        return all([state.is_over() for state in self.stands])

    def put_down(self, wrote):
        self.book.extend(wrote)
        return wrote

    def note_ready(self, place):
        self.readies.put(place, self.plan.job_at(place).rank, self.turn)
        return ("ready", place)

    def close_lease(self, number):
        lease = self.leases.close(number)
        self.alarms.drop(lease[4], LEASE_ENDS, lease[0])
        return lease

    def rings_by(self, goal):
        turn = self.next_turn()
        return turn is not None and turn <= goal

    def come_to(self, turn):
        if turn == self.turn:
            return []
        self.turn = turn
        return [("turn", turn)]

    def ring(self, alarm):
        if alarm[1] == LEASE_ENDS:
            lease = self.leases.close(alarm[2])
            return [("out", lease[0])] + self.end_try(lease[1], "out")
        place = alarm[2]
        self.stands[place] = self.stands[place].rested()
        return [self.note_ready(place)]

    def end_try(self, place, why):
        state = self.stands[place].failed(self.plan.job_at(place), self.turn, why)
        self.stands[place] = state
        if isinstance(state, Ready):
            return [self.note_ready(place)]
        if isinstance(state, Resting):
            self.alarms.put(state.until, REST_ENDS, place)
            return [("rest", place, state.until)]
        return [("break", place)] + self.cut_behind(place)

    def free_behind(self, place):
        wrote = []
        for other in self.blocked_behind(place):
            state = self.stands[other].freed()
            self.stands[other] = state
            if isinstance(state, Ready):
                wrote.append(self.note_ready(other))
        return wrote

    def cut_behind(self, place):
        wrote = []
        row = [place]
        at = 0
        while at < len(row):
            need = row[at]
            for other in self.blocked_behind(need):
                self.stands[other] = self.stands[other].cut_off(need)
                wrote.append(("cut", other, need))
                row.append(other)
            at += 1
        return wrote

    def blocked_behind(self, place):
        return [other for other in self.plan.wanted_by(place) if isinstance(self.stands[other], Blocked)]


def check_name(thing):
    if not is_name(thing):
        raise BadName("a worker, or why a try failed, is a name")


def hall_as(plan, term, turn, stands, given, leases, readies):
    """A hall that stands as told, its book empty. Its alarms follow from what is told."""
    hall = Hall(plan, term)
    hall.turn = turn
    hall.stands = list(stands)
    hall.leases.set_up(given, leases)
    hall.readies = Readies()
    for row in readies:
        hall.readies.put(row[0], row[1], row[2])
    for lease in leases:
        hall.alarms.put(lease[4], LEASE_ENDS, lease[0])
    for place, state in enumerate(stands):
        if isinstance(state, Resting):
            hall.alarms.put(state.until, REST_ENDS, place)
    return hall


def twin(hall):
    leases = hall.leases
    return hall_as(
        hall.plan, leases.term, hall.turn, hall.stands, leases.given, leases.rows(), hall.readies.rows()
    )
