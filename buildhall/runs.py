"""Runs: builders at a hall, turn by turn, and what happens to them."""

from buildhall.builders import Builder
from buildhall.errors import BadBuilders
from buildhall.events import need_events
from buildhall.halls import Hall
from buildhall.words import is_name

MOST_BUILDERS = 8


class Run:
    def __init__(self, plan, term, names, events):
        check_names(names)
        self.hall = Hall(plan, term)
        need_events(events, names)
        self.builders = [Builder(name) for name in names]
        self.happenings = by_turns(events)
        self.live()

    def go(self):
        # At the most turn the hall refuses, ahead of anything else.
        self.hall.pass_on(1)
        self.live()

    def live(self):
        for event in self.happenings.get(self.hall.turn, []):
            for builder in self.builders:
                if builder.name == event[2]:
                    happen(event, builder, self.hall)
        for builder in self.builders:
            builder.act(self.hall)


def check_names(names):
    if not isinstance(names, list) or not 1 <= len(names) <= MOST_BUILDERS:
        raise BadBuilders(f"a run has a list of one to {MOST_BUILDERS} names")
    if not all([is_name(name) for name in names]) or len(set(names)) < len(names):
        raise BadBuilders("builders have unlike names")


def by_turns(events):
    rows = {}
    for event in events:
        rows.setdefault(event[1], []).append(event)
    return rows


def happen(event, builder, hall):
    word = event[0]
    if word == "fall":
        builder.falls()
    elif word == "come":
        builder.comes(hall)
    elif word == "slip":
        builder.slips(hall, event[3])
    else:
        builder.mutes(hall, event[3])


def run(plan, term, names, events, most):
    going = Run(plan, term, names, events)
    while not going.hall.is_ended() and going.hall.turn < most:
        going.go()
    return going


def steady(names, events):
    struck = [event[2] for event in events]
    return [name for name in names if name not in struck]
