import inspect
import unittest

from buildhall import runs
from buildhall.bounds import bound
from buildhall.builders import Builder
from buildhall.errors import BadBuilders, BadEvent, BadTerm, BadTurn
from buildhall.halls import Hall
from buildhall.plans import Plan, plan_of
from buildhall.replays import replay
from buildhall.runs import Run, run, steady
from buildhall.shots import shot
from tests.helper import NO_NAMES, NO_TEXTS, NO_WHOLES, Draw, drawn_jobs, refused
from tests.model import Model, all_told, same
from tests.test_builders import told_task
from tests.test_halls import check_book

PLAN = plan_of(["job a span 3 tries 2 wait 2", "job b needs a", "job c span 2"])
EIGHT = ["ann", "bob", "cy", "di", "ed", "flo", "gus", "hal"]
NO_BUILDERS = NO_TEXTS[:8] + (
    "", "ann", [], (), ("ann",), ("ann", "bob"), {}, {"ann": 1}, {"ann"}, ["ann", "ann"], ["ann", "bob", "ann"],
    EIGHT + ["ida"], ["a"] * 9, [None], ["Ann"], ["ann", ""], ["ann", 7], [["ann"]], [[], []], [["ann"], ["ann"]],
    ["a" * 13], [True], [{}], object(), len,
)
NO_TERMS = NO_WHOLES + (0, 1, -1, 1001, 10 ** 30, 10 ** 5000)
BAD_EVENTS = (
    (0, None), (0, ()), (0, "fall 3 ann"), (0, (("fall", 3, "ann"),)), (0, {}), (0, 7), (0, [None]), (0, [[]]),
    (0, [["fall", 3, "ann"]]), (0, [("fall", 3, "zoe")]), (0, [("fall", True, "ann")]), (0, [("mute", 3, "ann", 1001)]),
    (1, [("fall", 3, "ann"), ("come", 2, "ann")]), (1, [("fall", 3, "ann"), ("come", 3, "zoe")]),
    (2, [("fall", 3, "ann"), ("come", 3, "ann"), ("fall", -1, "ann")]),
)


class RunModel:
    """Points 61 to 63, beside the model of the hall."""

    def __init__(self, jobs, term, names, events):
        self.hall = Model(jobs, term)
        self.events = events
        self.names = names
        self.task = {name: "idle" for name in names}
        self.quiet = {name: 0 for name in names}
        self.turn()

    def go(self):
        self.hall.do("pass_on", 1)
        self.turn()

    def turn(self):
        for event in self.events:
            if event[1] == self.hall.turn:
                getattr(self, event[0])(*event[2:])
        for name in self.names:
            self.act(name)

    def mutes(self, name):
        return self.hall.turn < self.quiet[name]

    def fall(self, name):
        self.task[name] = "fallen"

    def come(self, name):
        if self.task[name] == "fallen":
            self.task[name] = "idle"
            self.quiet[name] = 0
            self.hall.do("again", name)

    def slip(self, name, why):
        if type(self.task[name]) is tuple and not self.mutes(name):
            self.hall.do("fail", self.task[name][1], why)
            self.task[name] = "idle"

    def mute(self, name, turns):
        self.quiet[name] = max(self.quiet[name], self.hall.turn + turns)

    def act(self, name):
        task = self.task[name]
        if task == "idle" and not self.mutes(name):
            wrote = self.hall.do("ask", name)
            if type(wrote) is list and wrote:
                self.task[name] = ("work", wrote[0][1], self.hall.jobs[wrote[0][2]].span)
        if type(task) is tuple:
            left = max(0, task[2] - 1)
            self.task[name] = ("work", task[1], left)
            if not self.mutes(name):
                wrote = self.hall.do("renew" if left else "done", task[1])
                if wrote == "Gone" or not left:
                    self.task[name] = "idle"


def drawn_events(draw, names, many, far):
    rows = []
    for at in range(many):
        word = draw.pick(["fall", "come", "come", "slip", "mute"])
        row = (word, draw.below(far), draw.pick(names))
        if word == "slip":
            row += (draw.pick(["rain", "fire"]),)
        if word == "mute":
            row += (draw.among(1, 12),)
        rows.append(row)
    return sorted(rows, key=lambda row: row[1])


def alike(test, going, model):
    same(test, going.hall, model.hall)
    test.assertEqual([builder.name for builder in going.builders], model.names)
    for builder in going.builders:
        test.assertEqual(told_task(builder.task), model.task[builder.name])
        test.assertEqual(builder.quiet, model.quiet[builder.name])


class Interface(unittest.TestCase):
    def test_arguments(self):
        for call, arguments in (
            (Run, ["plan", "term", "names", "events"]), (Run.go, ["self"]),
            (runs.run, ["plan", "term", "names", "events", "most"]), (runs.steady, ["names", "events"]),
        ):
            self.assertEqual(list(inspect.signature(call).parameters), arguments)

    def test_fields(self):
        going = Run(PLAN, 5, ["bob", "ann"], [])
        self.assertIs(type(going.hall), Hall)
        self.assertIs(going.hall.plan, PLAN)
        self.assertEqual(going.hall.leases.term, 5)
        self.assertIs(type(going.builders), list)
        self.assertEqual([type(builder) for builder in going.builders], [Builder, Builder])
        self.assertEqual([builder.name for builder in going.builders], ["bob", "ann"])


class Point63Refusals(unittest.TestCase):
    def makers(self, plan, term, names, events):
        return (lambda: Run(plan, term, names, events), lambda: run(plan, term, names, events, 9))

    def no(self, kind, term, names, events, place=None):
        for make in self.makers(PLAN, term, names, events):
            error = refused(self, kind, make)
            if place is not None:
                self.assertEqual(error.place, place)

    def test_builders(self):
        for names in NO_BUILDERS:
            self.no(BadBuilders, 5, names, [])
        for name in NO_NAMES:
            self.no(BadBuilders, 5, ["ann", name], [])
            self.no(BadBuilders, 5, [name, "ann"], [])
            self.no(BadBuilders, 5, [name], [])

    def test_one_to_eight(self):
        for many in range(1, 9):
            self.assertEqual(len(Run(PLAN, 5, EIGHT[:many], []).builders), many)

    def test_terms(self):
        for term in NO_TERMS:
            self.no(BadTerm, term, ["ann"], [])
        for term in (2, 1000):
            self.assertEqual(Run(PLAN, term, ["ann"], []).hall.leases.term, term)

    def test_events(self):
        for place, events in BAD_EVENTS:
            self.no(BadEvent, 5, ["ann", "bob"], events, place)

    def test_which_goes_first(self):
        for names in NO_BUILDERS:
            self.no(BadBuilders, 1, names, None)
            self.no(BadBuilders, None, names, [])
            self.no(BadBuilders, 5, names, [("fall", 3, "zoe")])
        for place, events in BAD_EVENTS:
            self.no(BadTerm, 1, ["ann"], events)
            self.no(BadTerm, "5", ["ann"], events)


class Point63Runs(unittest.TestCase):
    def test_turn_nought_as_it_is_made(self):
        going = Run(PLAN, 5, ["bob", "ann"], [])
        self.assertEqual(going.hall.turn, 0)
        self.assertEqual(going.hall.entries(), [("lease", 0, 0, "bob", 5), ("lease", 1, 2, "ann", 5)])
        self.assertIsNone(going.go())
        self.assertEqual(going.hall.entries()[2:], [("turn", 1), ("renew", 0, 6), ("renew", 1, 6)])
        going.go()
        self.assertEqual(going.hall.entries()[5:], [("turn", 2), ("renew", 0, 7), ("done", 1)])
        going.go()
        self.assertEqual(going.hall.entries()[8:], [("turn", 3), ("done", 0), ("ready", 1), ("lease", 2, 1, "ann", 8)])

    def test_events_ahead_of_acts(self):
        going = Run(PLAN, 5, ["ann", "bob"], [("fall", 0, "ann"), ("slip", 2, "bob", "rain"), ("come", 2, "ann")])
        self.assertEqual(going.hall.entries(), [("lease", 0, 0, "bob", 5)])
        going.go()
        going.go()
        self.assertEqual(going.hall.entries()[3:], [
            ("turn", 2), ("fail", 0, "rain"), ("rest", 0, 4), ("lease", 1, 2, "ann", 7),
        ])

    def test_events_of_a_turn_as_they_stand(self):
        for events, fails in (
            ([("fall", 1, "ann"), ("come", 1, "ann"), ("slip", 1, "ann", "rain")], "fell"),
            ([("slip", 1, "ann", "rain"), ("fall", 1, "ann"), ("come", 1, "ann")], "rain"),
        ):
            going = Run(PLAN, 5, ["ann"], events)
            going.go()
            self.assertEqual(going.hall.entries()[2], ("fail", 0, fails))
        muted = Run(PLAN, 5, ["ann"], [("mute", 1, "ann", 1), ("slip", 1, "ann", "rain")])
        muted.go()
        self.assertEqual(muted.hall.entries()[1:], [("turn", 1)])

    def test_alarms_ring_ahead_of_events(self):
        going = Run(PLAN, 2, ["ann"], [("fall", 0, "ann"), ("come", 3, "ann")])
        self.assertEqual(going.hall.entries(), [])
        plan = plan_of(["job a span 9 tries 2"])
        going = Run(plan, 2, ["ann"], [("fall", 1, "ann"), ("come", 3, "ann")])
        for turn in range(3):
            going.go()
        self.assertEqual(going.hall.entries(), [
            ("lease", 0, 0, "ann", 2), ("turn", 1), ("turn", 2), ("out", 0), ("ready", 0), ("turn", 3),
            ("lease", 1, 0, "ann", 5),
        ])

    def test_at_the_most_turn(self):
        going = Run(plan_of(["job a", "job b needs a"]), 5, ["ann"], [("fall", 0, "ann"), ("come", 1000000000, "ann")])
        going.hall.pass_on(999999999)
        going.go()
        self.assertEqual(going.hall.entries(), [
            ("turn", 999999999), ("turn", 1000000000), ("lease", 0, 0, "ann", 1000000005),
        ])
        before = (all_told(going.hall), told_task(going.builders[0].task))
        refused(self, BadTurn, going.go)
        refused(self, BadTurn, going.go)
        self.assertEqual((all_told(going.hall), told_task(going.builders[0].task)), before)

    def test_events_behind_the_end(self):
        going = run(PLAN, 5, ["ann"], [("fall", 900, "ann")], 1000)
        self.assertTrue(going.hall.is_ended())
        self.assertEqual(going.hall.turn, 8)
        going.go()
        self.assertEqual(going.hall.turn, 9)

    def test_until_all_is_over_or_the_told_turn(self):
        for most in range(0, 8):
            going = run(PLAN, 5, ["ann"], [], most)
            self.assertIs(type(going), Run)
            self.assertEqual((going.hall.turn, going.hall.is_ended()), (most, False))
        for most in (8, 9, 100, 1000000000):
            going = run(PLAN, 5, ["ann"], [], most)
            self.assertEqual((going.hall.turn, going.hall.is_ended()), (8, True))

    def test_with_all_fallen(self):
        going = run(PLAN, 5, ["ann", "bob"], [("fall", 0, "ann"), ("fall", 1, "bob")], 50)
        self.assertEqual((going.hall.turn, going.hall.is_ended()), (50, False))

    def test_a_run_is_the_same_as_going_by_hand(self):
        events = [("fall", 1, "ann"), ("come", 4, "ann")]
        whole = run(PLAN, 5, ["ann", "bob"], events, 30)
        steps = Run(PLAN, 5, ["ann", "bob"], events)
        while steps.hall.turn < whole.hall.turn:
            steps.go()
        self.assertEqual(all_told(whole.hall), all_told(steps.hall))


class DrawnRuns(unittest.TestCase):
    def test_against_the_model(self):
        for seed in range(80):
            draw = Draw(seed)
            jobs = drawn_jobs(draw, draw.among(1, 12), 3, rank=2, span=5, tries=4, wait=4, grow=3)
            names = EIGHT[:draw.among(1, 8)]
            events = drawn_events(draw, names, draw.below(40), 60)
            term = draw.among(2, 7)
            going = Run(Plan(jobs), term, names, events)
            model = RunModel(jobs, term, names, events)
            alike(self, going, model)
            for turn in range(70):
                going.go()
                model.go()
                alike(self, going, model)
            check_book(self, jobs, term, going.hall)
            self.spans(jobs, names, events, going.hall)

    def spans(self, jobs, names, events, hall):
        """Point 64: a job that is done was leased at least its span ahead of that, by that lease."""
        turn = 0
        given = {}
        for entry in hall.entries():
            if entry[0] == "turn":
                turn = entry[1]
            elif entry[0] == "lease":
                given[entry[1]] = (entry[2], entry[3], turn)
            elif entry[0] == "done":
                place, worker, begin = given[entry[1]]
                self.assertGreaterEqual(turn - begin, jobs[place].span)
                if worker in steady(names, events):
                    self.assertEqual(turn - begin, jobs[place].span)

    def test_with_one_steady_builder_all_is_over_by_the_bound(self):
        ended = []
        for seed in range(250):
            draw = Draw(seed + 9000)
            jobs = drawn_jobs(draw, draw.among(1, 8), 3, rank=2, span=6, tries=4, wait=5, grow=2)
            names = EIGHT[:draw.among(1, 6)]
            others = names[1:]
            term = draw.among(2, 6)
            plan = Plan(jobs)
            last = bound(plan, term)
            events = drawn_events(draw, others, draw.below(60), last) if others else []
            names = draw.mixed(names)
            self.assertIn("ann", steady(names, events))
            going = run(plan, term, names, events, last)
            self.assertTrue(going.hall.is_ended(), seed)
            self.assertLessEqual(going.hall.turn, last)
            ended.append(going.hall.turn * 3 > last)
            self.spans(jobs, names, events, going.hall)
            check_book(self, jobs, term, going.hall)
        self.assertEqual(set(ended), {True, False})

    def test_others_that_hinder_as_they_can(self):
        # They take the jobs, are mute as long as can be, and fall: each try runs out.
        plan = plan_of(["job a span 6 tries 3 wait 4 grow 2", "job b span 3 tries 4 needs a", "job c tries 2 wait 7"])
        for term in (2, 3, 9):
            last = bound(plan, term)
            for gap in range(1, 14):
                events = []
                for turn in range(0, last, gap):
                    events.extend([("fall", turn, "zoe"), ("come", turn, "zoe"), ("mute", turn, "yam", max(1, gap - 1))])
                going = run(plan, term, ["zoe", "yam", "ann"], events, last)
                self.assertTrue(going.hall.is_ended())

    def test_alone_and_steady(self):
        going = run(plan_of(["job a span 7", "job b span 3 needs a", "job c span 2"]), 2, ["ann"], [], 100)
        # A builder that told its job done asks for the next one a turn later.
        self.assertEqual(going.hall.turn, 14)
        self.assertEqual([state[3] for state in going.hall.states()], [7, 14, 10])

    def test_a_book_of_a_run_leads_a_hall(self):
        for seed in range(20):
            draw = Draw(seed + 70)
            jobs = drawn_jobs(draw, draw.among(1, 8), 3, span=4, tries=3, wait=3)
            events = drawn_events(draw, ["ann", "bob"], 20, 40)
            going = run(Plan(jobs), 4, ["ann", "bob"], events, 50)
            again = replay(Plan(jobs), 4, going.hall.entries())
            self.assertEqual(shot(again), shot(going.hall))


class Point64Steady(unittest.TestCase):
    def test_steady(self):
        events = [("fall", 3, "bob"), ("mute", 4, "di", 9), ("slip", 1, "zoe", "ann")]
        for names, told in (
            (["ann", "bob", "cy", "di"], ["ann", "cy"]), (["di", "cy", "bob", "ann"], ["cy", "ann"]), (["bob"], []), ([], []),
            (["zoe", "ann"], ["ann"]), (EIGHT, ["ann", "cy", "ed", "flo", "gus", "hal"]),
        ):
            self.assertEqual(steady(names, events), told)
            self.assertEqual(steady(names, events[::-1]), told)
        self.assertEqual(steady(["ann", "bob"], []), ["ann", "bob"])


class Point14HandedIn(unittest.TestCase):
    def test_lists_stay_and_may_be_emptied(self):
        names = ["ann", "bob"]
        events = [("fall", 1, "ann"), ("come", 4, "ann")]
        going = Run(PLAN, 5, names, events)
        self.assertEqual((names, events), (["ann", "bob"], [("fall", 1, "ann"), ("come", 4, "ann")]))
        other = Run(PLAN, 5, list(names), list(events))
        names.clear()
        events.clear()
        for turn in range(12):
            going.go()
            other.go()
        self.assertEqual(all_told(going.hall), all_told(other.hall))

    def test_steady_leaves_its_lists(self):
        names = ["ann", "bob"]
        events = [("fall", 1, "ann")]
        told = steady(names, events)
        steady(names, events).clear()
        self.assertEqual((names, events, told), (["ann", "bob"], [("fall", 1, "ann")], ["bob"]))
        names.clear()
        events.clear()
        self.assertEqual(told, ["bob"])
        names = ["ann"]
        steady(names, []).append("x")
        self.assertEqual(names, ["ann"])

    def test_made_good_in_the_very_lists(self):
        names = ["ann", "ann"]
        events = [("fall", 3, "bob"), ("come", 2, "bob")]
        refused(self, BadBuilders, Run, PLAN, 5, names, events)
        names[1] = "bob"
        self.assertEqual(refused(self, BadEvent, Run, PLAN, 5, names, events).place, 1)
        events[1] = ("come", 3, "bob")
        self.assertEqual(len(Run(PLAN, 5, names, events).builders), 2)

    def test_two_runs_keep_apart(self):
        first = Run(PLAN, 5, ["ann"], [])
        second = Run(PLAN, 5, ["ann"], [])
        before = all_told(second.hall)
        first.go()
        self.assertEqual(all_told(second.hall), before)


if __name__ == "__main__":
    unittest.main()
