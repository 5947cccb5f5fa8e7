import inspect
import unittest

from buildhall import plans
from buildhall.errors import BadLine, BadPlan, NoJob, Ring, Twice
from buildhall.jobs import Job, job_line
from buildhall.plans import Plan, plan_lines, plan_of
from tests.helper import NO_NAMES, NO_TEXTS, Draw, drawn_jobs, name_at, refused, shown, told_job
from tests.test_rings import is_order

NO_LISTS = (
    None, True, False, 0, 1, -1, 1.0, "", "job a", "a", (), (Job("a"),), ("job a",), {}, {"a": 1}, {0: Job("a")},
    {"a"}, b"", object(), list, len, Job("a"),
)


def house():
    return [
        Job("roof", ["walls", "beams"], 3, 2, 2), Job("beams", ["wood"]), Job("walls", ["ground"]), Job("ground"),
        Job("wood"), Job("door", ["walls", "wood"]),
    ]


def chain(many):
    return [Job(name_at(0))] + [Job(name_at(at), [name_at(at - 1)]) for at in range(1, many)]


def is_ring(names, jobs):
    needs = {job.name: job.needs for job in jobs}
    return len(set(names)) == len(names) >= 1 and all(
        names[(at + 1) % len(names)] in needs[name] for at, name in enumerate(names)
    )


class Interface(unittest.TestCase):
    def test_arguments(self):
        for call, arguments in (
            (Plan, ["jobs"]), (Plan.many, ["self"]), (Plan.job_at, ["self", "place"]),
            (Plan.place_of, ["self", "name"]), (Plan.wants, ["self", "place"]), (Plan.wanted_by, ["self", "place"]),
            (Plan.order, ["self"]), (plans.plan_of, ["lines"]), (plans.plan_lines, ["plan"]),
        ):
            self.assertEqual(list(inspect.signature(call).parameters), arguments)

    def test_fields(self):
        jobs = house()
        plan = Plan(jobs)
        self.assertIs(type(plan.jobs), list)
        self.assertIsNot(plan.jobs, jobs)
        self.assertEqual(plan.jobs, jobs)
        self.assertEqual(plan.places, {"roof": 0, "beams": 1, "walls": 2, "ground": 3, "wood": 4, "door": 5})
        self.assertIs(type(plan.places), dict)


class Point8Plans(unittest.TestCase):
    def test_how_many(self):
        for many in (1, 2, 39, 40):
            plan = Plan(chain(many))
            self.assertEqual(plan.many(), many)
            self.assertEqual(len(plan.jobs), many)
            self.assertEqual(plan.places, {name_at(at): at for at in range(many)})

    def test_jobs_at_their_places(self):
        jobs = house()
        plan = Plan(jobs)
        for place, job in enumerate(jobs):
            self.assertIs(plan.job_at(place), job)
            self.assertEqual(plan.place_of(job.name), place)

    def test_the_list_may_be_changed_later(self):
        jobs = house()
        plan = Plan(jobs)
        kept = list(jobs)
        jobs.clear()
        self.assertEqual(plan.many(), 6)
        self.assertEqual(plan.jobs, kept)
        self.assertEqual([plan.job_at(place) for place in range(6)], kept)
        self.assertEqual(plan.wants(0), [1, 2])
        self.assertEqual(plan.wanted_by(2), [0, 5])
        self.assertEqual(plan.order(), [3, 2, 4, 1, 0, 5])

    def test_jobs_in_two_plans(self):
        jobs = house()
        first = Plan(jobs)
        second = Plan(jobs[::-1])
        self.assertEqual(first.place_of("roof"), 0)
        self.assertEqual(second.place_of("roof"), 5)


class Point9Refusals(unittest.TestCase):
    def test_what_is_no_list(self):
        for thing in NO_LISTS:
            refused(self, BadPlan, Plan, thing)

    def test_too_few_and_too_many(self):
        refused(self, BadPlan, Plan, [])
        for many in (41, 42, 60, 200):
            refused(self, BadPlan, Plan, chain(many))

    def test_what_is_no_job_at_any_place(self):
        for thing in NO_TEXTS + ("a", "job a", Job, [Job("z")], Plan([Job("z")]), ("z", [], 0, 1, 1, 0, 1)):
            for at in range(3):
                jobs = [Job("a"), Job("b"), Job("c")]
                jobs[at] = thing
                refused(self, BadPlan, Plan, jobs)
            refused(self, BadPlan, Plan, [thing])
        for at in (0, 20, 39):
            jobs = chain(40)
            jobs[at] = None
            refused(self, BadPlan, Plan, jobs)

    def test_twice(self):
        refused(self, Twice, Plan, [Job("a"), Job("a")])
        refused(self, Twice, Plan, [Job("a"), Job("b"), Job("a", ["b"])])
        refused(self, Twice, Plan, [Job("b"), Job("a"), Job("a")])
        one = Job("a")
        refused(self, Twice, Plan, [one, one])
        jobs = chain(40)
        jobs[39] = Job("a")
        refused(self, Twice, Plan, jobs)

    def no_job(self, name, jobs):
        error = refused(self, NoJob, Plan, jobs)
        self.assertEqual(error.name, name)

    def test_no_job(self):
        self.no_job("b", [Job("a", ["b"])])
        self.no_job("c", [Job("a", ["b"]), Job("b", ["c"])])
        self.no_job("x", [Job("a", ["b", "x", "y"]), Job("b")])
        self.no_job("y", [Job("a", ["y", "x", "b"]), Job("b")])

    def test_no_job_in_two_jobs(self):
        self.no_job("y", [Job("c"), Job("a", ["c", "y"]), Job("b", ["x"])])
        self.no_job("x", [Job("b", ["x"]), Job("c"), Job("a", ["c", "y"])])
        self.no_job("x", [Job("b", ["x"]), Job("a", ["x"])])
        self.no_job("z", [Job("a", ["b"]), Job("b", ["a", "z"]), Job("c", ["y"])])

    def ring(self, jobs):
        error = refused(self, Ring, Plan, jobs)
        self.assertIs(type(error.names), list)
        self.assertTrue(is_ring(error.names, jobs), error.names)
        return error.names

    def test_rings(self):
        self.assertEqual(sorted(self.ring([Job("a", ["b"]), Job("b", ["a"])])), ["a", "b"])
        self.assertEqual(
            sorted(self.ring([Job("x"), Job("c", ["x", "a"]), Job("a", ["b"]), Job("b", ["c"]), Job("y", ["a"])])),
            ["a", "b", "c"],
        )
        for many in (2, 3, 40):
            jobs = [Job(name_at(at), [name_at((at + 1) % many)]) for at in range(many)]
            self.assertEqual(sorted(self.ring(jobs)), sorted([name_at(at) for at in range(many)]))

    def test_two_rings(self):
        names = self.ring([Job("a", ["b"]), Job("b", ["a"]), Job("c", ["d"]), Job("d", ["c"])])
        self.assertIn(sorted(names), [["a", "b"], ["c", "d"]])

    def test_which_goes_first(self):
        twice_no_job_ring = [Job("a", ["b"]), Job("b", ["a"]), Job("c", ["x"]), Job("c")]
        refused(self, BadPlan, Plan, twice_no_job_ring + [None])
        refused(self, BadPlan, Plan, twice_no_job_ring * 11)
        refused(self, BadPlan, Plan, tuple(twice_no_job_ring))
        refused(self, Twice, Plan, twice_no_job_ring)
        self.no_job("x", twice_no_job_ring[:3])
        self.ring(twice_no_job_ring[:2])
        refused(self, Twice, Plan, [Job("a", ["x"]), Job("b"), Job("b")])
        self.no_job("x", [Job("a", ["b", "x"]), Job("b", ["a"])])

    def test_made_good_in_the_very_list(self):
        jobs = [Job("a", ["b"]), Job("b", ["a"]), Job("c", ["x"]), Job("c"), 7]
        refused(self, BadPlan, Plan, jobs)
        self.assertEqual(len(jobs), 5)
        jobs.pop()
        refused(self, Twice, Plan, jobs)
        jobs.pop()
        self.no_job("x", jobs)
        jobs[2] = Job("c")
        names = self.ring(jobs)
        jobs[0] = Job("a")
        self.assertEqual(Plan(jobs).many(), 3)
        self.assertEqual(sorted(names), ["a", "b"])


class Point10Places(unittest.TestCase):
    def test_wants_and_wanted_by(self):
        plan = Plan(house())
        self.assertEqual([plan.wants(place) for place in range(6)], [[1, 2], [4], [3], [], [], [2, 4]])
        self.assertEqual([plan.wanted_by(place) for place in range(6)], [[], [0], [0, 5], [2], [1, 5], []])

    def test_they_rise_whatever_order_the_job_tells(self):
        for needs in (["a", "b", "c"], ["c", "b", "a"], ["b", "c", "a"]):
            plan = Plan([Job("c"), Job("z", needs), Job("a"), Job("b")])
            self.assertEqual(plan.wants(1), [0, 2, 3])
        plan = Plan([Job("z", ["a"]), Job("a"), Job("b", ["a"]), Job("y", ["b", "a"])])
        self.assertEqual(plan.wanted_by(1), [0, 2, 3])

    def test_drawn_plans(self):
        draw = Draw(5)
        for turn in range(60):
            jobs = drawn_jobs(draw, draw.among(1, 40), 8)
            plan = Plan(jobs)
            names = [job.name for job in jobs]
            for place, job in enumerate(jobs):
                self.assertEqual(plan.wants(place), sorted([names.index(need) for need in job.needs]))
                behind = [other for other, one in enumerate(jobs) if job.name in one.needs]
                self.assertEqual(plan.wanted_by(place), behind)

    def test_no_job_of_any_kind(self):
        plan = Plan(house())
        for thing in NO_NAMES + (
            "x", "roofs", "roo", "Roof", "roof ", 5, [], ["roof"], ("roof",), {"roof": 0}, [["roof"]], Job("roof"),
        ):
            error = refused(self, NoJob, plan.place_of, thing)
            self.assertEqual(error.name, thing, shown(thing))
            self.assertIs(type(error.name), type(thing))

    def test_what_no_job_tells_stays(self):
        plan = Plan(house())
        for asked, copy in (
            (["roof"], ["roof"]), ({"roof": 1}, {"roof": 1}), ([["roof"]], [["roof"]]), ([{"a": []}], [{"a": []}]),
        ):
            error = refused(self, NoJob, plan.place_of, asked)
            if isinstance(asked, list) and isinstance(asked[0], (list, dict)):
                asked[0].clear()
            asked.clear()
            self.assertEqual(error.name, copy)
        row = []
        error = refused(self, NoJob, plan.place_of, (row, 7))
        row.append("roof")
        self.assertEqual(error.name, ([], 7))

    def test_no_job_keeps_nothing_that_was_handed_in(self):
        asked = ["roof"]
        error = refused(self, NoJob, Plan(house()).place_of, asked)
        self.assertFalse(any(part is asked for part in (error.name,) + error.args))

    def test_no_job_tells_what_lies_deep(self):
        asked = ["roof"]
        for turn in range(40):
            asked = [asked, (asked,), {"a": asked}][turn % 3:turn % 3 + 1]
        error = refused(self, NoJob, Plan(house()).place_of, asked)
        self.assertEqual(error.name, asked)

    def test_a_list_that_holds_itself(self):
        row = ["roof"]
        row.append(row)
        error = refused(self, NoJob, Plan(house()).place_of, row)
        self.assertEqual(error.name[0], "roof")

    def test_asked_again(self):
        plan = Plan(house())
        refused(self, NoJob, plan.place_of, "cellar")
        self.assertEqual(plan.place_of("door"), 5)


class Point12Orders(unittest.TestCase):
    def test_orders(self):
        self.assertEqual(Plan([Job("a")]).order(), [0])
        self.assertEqual(Plan(house()).order(), [3, 2, 4, 1, 0, 5])
        self.assertEqual(Plan(chain(40)).order(), list(range(40)))
        self.assertEqual(Plan(chain(40)[::-1]).order(), list(range(39, -1, -1)))

    def test_drawn_plans(self):
        draw = Draw(6)
        for turn in range(60):
            plan = Plan(drawn_jobs(draw, draw.among(1, 40), 4))
            wants = [plan.wants(place) for place in range(plan.many())]
            self.assertTrue(is_order(wants, plan.order()))


class Point13Lines(unittest.TestCase):
    def test_written(self):
        self.assertEqual(plan_lines(Plan(house())), [
            "job roof rank 3 span 2 tries 2 needs walls beams", "job beams needs wood", "job walls needs ground",
            "job ground", "job wood", "job door needs walls wood",
        ])
        self.assertEqual(plan_lines(Plan([Job("a")])), ["job a"])

    def test_read(self):
        plan = plan_of(["job a rank 0", "job b span 7 needs a c", "job c"])
        self.assertIs(type(plan), Plan)
        self.assertEqual([told_job(job) for job in plan.jobs], [
            ("a", [], 0, 1, 1, 0, 1), ("b", ["a", "c"], 0, 7, 1, 0, 1), ("c", [], 0, 1, 1, 0, 1),
        ])
        self.assertEqual(plan.wants(1), [0, 2])

    def test_what_is_written_is_read(self):
        draw = Draw(7)
        for turn in range(40):
            jobs = drawn_jobs(draw, draw.among(1, 40), 8, rank=99, span=1000, tries=20, wait=1000, grow=4)
            again = plan_of(plan_lines(Plan(jobs)))
            self.assertEqual([told_job(job) for job in again.jobs], [told_job(job) for job in jobs])

    def bad(self, place, lines):
        error = refused(self, BadLine, plan_of, lines)
        self.assertEqual(error.place, place)
        self.assertIs(type(error.place), int)

    def test_the_first_line_that_writes_no_job(self):
        for bad in ("", "a", "job", "job A", "job a ", "job x rank 100", "job x needs x", None, 7, [], ["job x"], b"job x"):
            for at in range(4):
                lines = ["job a", "job b needs a", "job c", "job d"]
                lines[at] = bad
                self.bad(at, lines)
                lines.append("no job")
                self.bad(at, lines)
        self.bad(1, ["job a", "x", "job b", "y"])

    def test_what_is_no_list(self):
        for thing in NO_LISTS:
            self.bad(0, thing)

    def test_no_lines(self):
        refused(self, BadPlan, plan_of, [])

    def test_lines_go_ahead_of_all_else(self):
        self.bad(2, ["job a", "job a", "x"])
        self.bad(1, ["job a needs x", "y"])
        self.bad(2, ["job a needs b", "job b needs a", "job c needs"])
        many = [job_line(job) for job in chain(50)]
        self.bad(49, many[:49] + ["x"])
        self.bad(41, many[:41] + ["x"] + many[42:])
        refused(self, BadPlan, plan_of, many)
        refused(self, BadPlan, plan_of, many[:41])
        self.assertEqual(plan_of(many[:40]).many(), 40)

    def test_then_the_plan(self):
        refused(self, Twice, plan_of, ["job a", "job a needs x"])
        self.assertEqual(refused(self, NoJob, plan_of, ["job a needs b", "job b needs a x"]).name, "x")
        error = refused(self, Ring, plan_of, ["job a needs b", "job b needs a"])
        self.assertEqual(sorted(error.names), ["a", "b"])

    def test_made_good_in_the_very_list(self):
        lines = ["job a", "job b needs"]
        self.bad(1, lines)
        self.assertEqual(lines, ["job a", "job b needs"])
        lines[1] = "job b needs a"
        plan = plan_of(lines)
        lines.clear()
        self.assertEqual(plan_lines(plan), ["job a", "job b needs a"])


class Point14Told(unittest.TestCase):
    def test_told_lists_change_nothing(self):
        plan = Plan(house())
        for ask in (
            lambda: plan.wants(0), lambda: plan.wanted_by(2), lambda: plan.order(), lambda: plan_lines(plan),
        ):
            told = ask()
            copy = list(told)
            ask().clear()
            self.assertEqual(told, copy)
            self.assertEqual(ask(), copy)
            told.append(7)
            self.assertEqual(ask(), copy)

    def test_the_list_of_a_plan_is_not_what_it_goes_by(self):
        plan = Plan(house())
        plan.jobs.clear()
        self.assertEqual(plan.many(), 6)
        self.assertEqual(plan.order(), [3, 2, 4, 1, 0, 5])

    def test_names_of_a_ring_are_the_askers_own(self):
        jobs = [Job("a", ["b"]), Job("b", ["a"])]
        first = refused(self, Ring, Plan, jobs)
        refused(self, Ring, Plan, jobs).names.clear()
        self.assertEqual(sorted(first.names), ["a", "b"])


if __name__ == "__main__":
    unittest.main()
