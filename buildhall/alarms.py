"""Alarms: tuples of a turn, a sort and a number, which are kept rising."""

from buildhall.errors import NoAlarm


class Alarms:
    def __init__(self):
        self.rising = []

    def put(self, turn, sort, number):
        alarm = (turn, sort, number)
        self.rising.insert(self.spot(alarm), alarm)

    def drop(self, turn, sort, number):
        alarm = (turn, sort, number)
        spot = self.spot(alarm)
        if self.rising[spot:spot + 1] != [alarm]:
            raise NoAlarm("there is no such alarm")
        self.rising.pop(spot)

    def first(self):
        return self.rising[0] if self.rising else None

    def take(self):
        if not self.rising:
            raise NoAlarm("there is no alarm")
        return self.rising.pop(0)

    def rows(self):
        return list(self.rising)

    def many(self):
        return len(self.rising)

    def spot(self, alarm):
        """Where the first alarm stands that is not less than this one."""
        low = 0
        high = len(self.rising)
        while low < high:
            half = (low + high) // 2
            if self.rising[half] < alarm:
                low = half + 1
            else:
                high = half
        return low
