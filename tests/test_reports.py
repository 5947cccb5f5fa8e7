import inspect
import unittest

from buildhall import reports
from buildhall.errors import BadBuilders, BadEvent, BadLine, BadPlan, BadTerm, NoJob, Ring, Twice
from buildhall.events import event_line
from buildhall.halls import Hall
from buildhall.plans import Plan, plan_lines, plan_of
from buildhall.reports import report, run_text
from buildhall.runs import run
from buildhall.shots import hall_of, shot
from tests.helper import NO_TEXTS, Draw, drawn_jobs, refused
from tests.model import all_told, drawn_hall
from tests.test_reasons import plain_reason
from tests.test_runs import BAD_EVENTS, NO_BUILDERS, NO_TERMS, drawn_events

LINES = ["job roof needs walls beams", "job beams tries 2 wait 3", "job walls span 4", "job door needs roof"]


def plain_report(model, order):
    """Point 71, from what the model tells."""
    texts = []
    for place in order:
        name = model.jobs[place].name
        told = model.told[place]
        if told[0] == "done":
            texts.append("%s done %d" % (name, told[3]))
        elif told[0] == "broken":
            texts.append("%s broken %d %s" % (name, told[1], told[2]))
        elif told[0] == "cut":
            texts.append("%s cut %s" % (name, model.jobs[told[1]].name))
        else:
            texts.append("%s %s for %s" % (name, told[0], plain_reason(model, name)[-1][0]))
    return texts + ["%s %d" % ("over" if model.is_ended() else "open", model.turn)]


class Interface(unittest.TestCase):
    def test_arguments(self):
        self.assertEqual(list(inspect.signature(reports.report).parameters), ["hall"])
        self.assertEqual(
            list(inspect.signature(reports.run_text).parameters), ["lines", "term", "names", "event_lines", "most"]
        )


class Point71Reports(unittest.TestCase):
    def test_each_kind_of_standing(self):
        hall = Hall(plan_of(LINES), 9)
        self.assertEqual(report(hall), [
            "beams ready for beams", "walls ready for walls", "roof blocked for walls", "door blocked for walls", "open 0",
        ])
        hall.ask("ann")
        hall.ask("bob")
        self.assertEqual(report(hall)[:2], ["beams leased for beams", "walls leased for walls"])
        hall.pass_on(4)
        hall.done(1)
        self.assertEqual(report(hall), [
            "beams leased for beams", "walls done 4", "roof blocked for beams", "door blocked for beams", "open 4",
        ])
        hall.fail(0, "slip")
        self.assertEqual(report(hall)[0], "beams resting for beams")
        hall.pass_on(5)
        self.assertEqual(report(hall)[-2:], ["door blocked for beams", "open 9"])
        hall.ask("ann")
        hall.fail(2, "rain")
        self.assertEqual(report(hall), ["beams broken 2 rain", "walls done 4", "roof cut beams", "door cut roof", "over 9"])

    def test_the_words_of_the_document(self):
        hall = Hall(plan_of(["job roof needs walls beams", "job walls", "job beams rank 1 tries 2 wait 50"]), 9)
        hall.ask("ann")
        hall.fail(0, "slip")
        hall.ask("bob")
        hall.pass_on(4)
        hall.done(1)
        hall.pass_on(5)
        self.assertEqual(report(hall), ["walls done 4", "beams resting for beams", "roof blocked for beams", "open 9"])

    def test_over(self):
        hall = Hall(plan_of(["job a"]), 9)
        hall.pass_on(3)
        hall.ask("ann")
        hall.done(0)
        hall.pass_on(4)
        self.assertEqual(report(hall), ["a done 3", "over 7"])

    def test_behind_drawn_deeds(self):
        for seed in range(80):
            hall, model = drawn_hall(seed, 1 + seed % 14, 2 * seed % 90, rank=2, tries=3, wait=4, grow=2)
            before = all_told(hall)
            told = report(hall)
            self.assertEqual(told, plain_report(model, hall.plan.order()))
            self.assertEqual(report(hall_of(hall.plan, shot(hall))), told)
            self.assertEqual(all_told(hall), before)

    def test_told_lists(self):
        hall = Hall(plan_of(LINES), 9)
        told = report(hall)
        kept = list(told)
        report(hall).clear()
        hall.ask("ann")
        hall.pass_on(3)
        self.assertEqual(told, kept)
        told.clear()
        self.assertEqual(report(hall)[-1], "open 3")


class Point72Runs(unittest.TestCase):
    def test_a_run(self):
        self.assertEqual(run_text(LINES, 9, ["ann", "bob"], [], 100), [
            "beams done 1", "walls done 4", "roof done 6", "door done 7", "over 7",
        ])
        self.assertEqual(run_text(LINES, 9, ["ann", "bob"], [], 2), [
            "beams done 1", "walls leased for walls", "roof blocked for walls", "door blocked for walls", "open 2",
        ])
        self.assertEqual(run_text(LINES, 9, ["ann"], [], 0)[-1], "open 0")

    def test_with_events(self):
        events = ["slip 1 ann rain", "fall 5 ann", "come 6 ann"]
        self.assertEqual(run_text(LINES, 9, ["ann"], events, 100), [
            "beams done 7", "walls broken 1 fell", "roof cut walls", "door cut roof", "over 7",
        ])
        told = run_text(LINES, 9, ["ann"], ["slip 1 ann rain", "mute 6 ann 20"], 12)
        self.assertEqual(told[-1], "open 12")

    def test_drawn_runs(self):
        for seed in range(40):
            draw = Draw(seed + 72)
            plan = Plan(drawn_jobs(draw, draw.among(1, 9), 3, rank=2, span=4, tries=3, wait=3, grow=2))
            events = drawn_events(draw, ["ann", "bob", "cy"], draw.below(20), 40)
            most = draw.below(60)
            going = run(plan, 4, ["ann", "bob", "cy"], events, most)
            lines = [event_line(event) for event in events]
            self.assertEqual(run_text(plan_lines(plan), 4, ["ann", "bob", "cy"], lines, most), report(going.hall))

    def no(self, kind, lines, term, names, events):
        return refused(self, kind, run_text, lines, term, names, events, 9)

    def bad_line(self, place, lines, events, names=None, term=5):
        error = self.no(BadLine, lines, term, ["ann"] if names is None else names, events)
        self.assertEqual(error.place, place)

    def test_the_plan_goes_first(self):
        for events in ([], ["x"], None, ["fall 3 zoe"], ["fall 3 ann", "come 2 ann", "x"]):
            for names in (["ann"], [], None):
                for term in (5, 1, None):
                    self.bad_line(1, ["job a", "x"], events, names, term)
                    self.bad_line(0, None, events, names, term)
                    self.no(BadPlan, [], term, names, events)
                    self.no(Twice, ["job a", "job a"], term, names, events)
                    self.assertEqual(self.no(NoJob, ["job a needs b"], term, names, events).name, "b")
                    error = self.no(Ring, ["job a needs b", "job b needs a"], term, names, events)
                    self.assertEqual(sorted(error.names), ["a", "b"])

    def test_then_the_lines_of_events(self):
        for names in (["ann"], [], None):
            for term in (5, 1, None):
                self.bad_line(0, LINES, ["x"], names, term)
                self.bad_line(2, LINES, ["fall 3 ann", "come 2 ann", "fall 2", "x"], names, term)
                self.bad_line(1, LINES, ["fall 3 zoe", None], names, term)
        for thing in NO_TEXTS[:9] + ("", "fall 3 ann", (), ("fall 3 ann",), {}, object()):
            self.bad_line(0, LINES, thing)
        for thing in NO_TEXTS + ("", "fall", "fall 3 Ann", "mute 3 ann 1001", ("fall", 3, "ann")):
            self.bad_line(1, LINES, ["fall 3 ann", thing])

    def test_then_what_the_run_refuses(self):
        for names in NO_BUILDERS:
            self.no(BadBuilders, LINES, 1, names, ["fall 3 zoe"])
        for term in NO_TERMS:
            self.no(BadTerm, LINES, term, ["ann"], ["fall 3 zoe"])
        for place, events in BAD_EVENTS:
            if type(events) is list and all(type(event) is tuple and type(event[1]) is int for event in events):
                if all(event[1] >= 0 and event[0] != "mute" for event in events):
                    lines = [event_line(event) for event in events]
                    self.assertEqual(self.no(BadEvent, LINES, 5, ["ann", "bob"], lines).place, place)

    def test_lists_stay_and_what_is_made_good_is_taken(self):
        lines = list(LINES)
        names = ["ann", "ann"]
        events = ["fall 3 ann", "come 2 ann"]
        self.no(BadBuilders, lines, 5, names, events)
        names[1] = "bob"
        self.assertEqual(self.no(BadEvent, lines, 5, names, events).place, 1)
        events[1] = "come 3 ann"
        told = run_text(lines, 5, names, events, 50)
        self.assertEqual((lines, names, events), (LINES, ["ann", "bob"], ["fall 3 ann", "come 3 ann"]))
        kept = list(told)
        run_text(lines, 5, names, events, 50).clear()
        lines.clear()
        names.clear()
        events.clear()
        self.assertEqual(told, kept)
        self.assertEqual(told[-1][:4], "over")


if __name__ == "__main__":
    unittest.main()
