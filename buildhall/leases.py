"""Leases: tuples of a number, a place, a worker, and the turns of their begin and end."""

from buildhall.errors import BadTerm, Busy, Gone
from buildhall.words import is_among, is_whole

LEAST_TERM = 2
MOST_TERM = 1000


def is_term(thing):
    return is_among(thing, LEAST_TERM, MOST_TERM)


class Leases:
    def __init__(self, term):
        if not is_term(term):
            raise BadTerm(f"a term is a whole number from {LEAST_TERM} to {MOST_TERM}")
        self.term = term
        self.given = 0
        # By their numbers; these only rise, so the dict has them in order.
        self.held = {}

    def set_up(self, given, leases):
        """Makes these the open ones, as they stood elsewhere: their numbers rise."""
        self.given = given
        self.held = dict([(lease[0], lease) for lease in leases])

    def take(self, place, worker, turn):
        if self.holder(worker) is not None:
            raise Busy("the worker has an open lease")
        lease = (self.given, place, worker, turn, turn + self.term)
        self.held[self.given] = lease
        self.given += 1
        return lease

    def of(self, number):
        # To a dict True is the number 1, and not each thing can be looked up in it.
        if not is_whole(number) or number not in self.held:
            raise Gone("there is no open lease of that number")
        return self.held[number]

    def renew(self, number, turn):
        lease = self.of(number)
        renewed = lease[:4] + (turn + self.term,)
        self.held[number] = renewed
        return renewed

    def close(self, number):
        lease = self.of(number)
        self.held.pop(number)
        return lease

    def holder(self, worker):
        for lease in self.held.values():
            if lease[2] == worker:
                return lease
        return None

    def rows(self):
        return list(self.held.values())
