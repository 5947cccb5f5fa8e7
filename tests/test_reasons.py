import inspect
import unittest

from buildhall import reasons
from buildhall.errors import NoJob
from buildhall.halls import Hall
from buildhall.plans import plan_of
from buildhall.reasons import standing, why_not
from buildhall.shots import hall_of, shot
from tests.helper import NO_NAMES, refused
from tests.model import all_told, drawn_hall

PLAN = plan_of([
    "job roof needs walls beams", "job beams needs wood", "job walls needs ground", "job ground tries 2", "job wood",
    "job door needs roof", "job path",
])


def plain_reason(model, name):
    """Point 70, from what the model tells."""
    place = model.places[name]
    told = model.told[place]
    here = [(name, told)]
    if told[0] == "cut":
        return here + plain_reason(model, model.jobs[told[1]].name)
    if told[0] == "blocked":
        for need in model.jobs[place].needs:
            if model.told[model.places[need]][0] != "done":
                return here + plain_reason(model, need)
    return here


class Interface(unittest.TestCase):
    def test_arguments(self):
        self.assertEqual(list(inspect.signature(reasons.why_not).parameters), ["hall", "name"])
        self.assertEqual(list(inspect.signature(reasons.standing).parameters), ["hall"])


class Point70Reasons(unittest.TestCase):
    def test_at_first(self):
        hall = Hall(PLAN, 6)
        self.assertEqual(why_not(hall, "path"), [("path", ("ready", 0))])
        self.assertEqual(why_not(hall, "door"), [
            ("door", ("blocked", 1)), ("roof", ("blocked", 2)), ("walls", ("blocked", 1)), ("ground", ("ready", 0)),
        ])
        self.assertEqual(why_not(hall, "beams"), [("beams", ("blocked", 1)), ("wood", ("ready", 0))])

    def test_the_first_need_as_the_job_tells_them(self):
        for needs, first in (("b c", "b"), ("c b", "c")):
            hall = Hall(plan_of([f"job a needs {needs}", "job c", "job b"]), 6)
            self.assertEqual(why_not(hall, "a"), [("a", ("blocked", 2)), (first, ("ready", 0))])

    def test_done_needs_are_gone_over(self):
        hall = Hall(plan_of(["job a needs b c", "job b", "job c"]), 6)
        hall.ask("ann")
        self.assertEqual(why_not(hall, "a"), [("a", ("blocked", 2)), ("b", ("leased", 0, 0))])
        hall.done(0)
        self.assertEqual(why_not(hall, "a"), [("a", ("blocked", 1)), ("c", ("ready", 0))])
        self.assertEqual(why_not(hall, "b"), [("b", ("done", 0, 0, 0))])

    def test_each_end(self):
        hall = Hall(plan_of(["job a tries 2 wait 5", "job b needs a", "job c needs b"]), 6)
        hall.ask("ann")
        self.assertEqual(why_not(hall, "c")[-1], ("a", ("leased", 0, 0)))
        hall.fail(0, "slip")
        self.assertEqual(why_not(hall, "c")[-1], ("a", ("resting", 1, 5)))
        hall.pass_on(5)
        self.assertEqual(why_not(hall, "c")[-1], ("a", ("ready", 1)))
        hall.ask("ann")
        hall.fail(1, "rain")
        self.assertEqual(why_not(hall, "c"), [("c", ("cut", 1)), ("b", ("cut", 0)), ("a", ("broken", 2, "rain"))])
        self.assertEqual(why_not(hall, "a"), [("a", ("broken", 2, "rain"))])

    def test_cut_by_another_than_the_first_need(self):
        hall = Hall(plan_of(["job a needs b c", "job b", "job c"]), 6)
        hall.ask("ann")
        hall.ask("bob")
        hall.fail(1, "slip")
        self.assertEqual(why_not(hall, "a"), [("a", ("cut", 2)), ("c", ("broken", 1, "slip"))])

    def test_no_job(self):
        hall = Hall(PLAN, 6)
        for thing in NO_NAMES + ("x", "roofs", ["roof"], ("roof",), {"roof": 1}, 0):
            self.assertEqual(refused(self, NoJob, why_not, hall, thing).name, thing)

    def test_behind_drawn_deeds(self):
        for seed in range(80):
            hall, model = drawn_hall(seed, 1 + seed % 14, 2 * seed % 70, rank=2, tries=3, wait=4, grow=2)
            before = all_told(hall)
            for job in model.jobs:
                told = why_not(hall, job.name)
                self.assertEqual(told, plain_reason(model, job.name))
                self.assertEqual({type(pair) for pair in told}, {tuple})
                self.assertIn(told[-1][1][0], ("done", "broken", "ready", "resting", "leased"))
                words = [pair[1][0] for pair in told[:-1]]
                if told[-1][1][0] == "broken":
                    self.assertEqual(set(words) - {"cut"}, set())
                else:
                    self.assertEqual(set(words) - {"blocked"}, set())
                self.assertEqual(why_not(hall_of(hall.plan, shot(hall)), job.name), told)
            self.assertEqual(all_told(hall), before)

    def test_standing(self):
        hall = Hall(PLAN, 6)
        self.assertEqual(standing(hall), [
            ("ground", "ready"), ("walls", "blocked"), ("wood", "ready"), ("beams", "blocked"), ("roof", "blocked"),
            ("door", "blocked"), ("path", "ready"),
        ])
        hall.ask("ann")
        hall.ask("bob")
        hall.fail(1, "slip")
        self.assertEqual([pair[1] for pair in standing(hall)], [
            "leased", "blocked", "broken", "cut", "cut", "cut", "ready",
        ])

    def test_standing_behind_drawn_deeds(self):
        for seed in range(30):
            hall, model = drawn_hall(seed, 1 + seed % 14, 40, rank=2, tries=3, wait=4, grow=2)
            self.assertEqual(standing(hall), [(model.jobs[at].name, model.told[at][0]) for at in hall.plan.order()])


class Point14Told(unittest.TestCase):
    def test_lists_are_the_askers_own(self):
        hall = Hall(PLAN, 6)
        for ask in (lambda: why_not(hall, "door"), lambda: standing(hall)):
            told = ask()
            kept = list(told)
            before = all_told(hall)
            ask().clear()
            self.assertEqual(ask(), kept)
            told.append(7)
            self.assertEqual(all_told(hall), before)
            self.assertEqual(ask(), kept)
        told = why_not(hall, "door")
        kept = list(told)
        hall.ask("ann")
        hall.done(0)
        self.assertEqual(told, kept)


if __name__ == "__main__":
    unittest.main()
