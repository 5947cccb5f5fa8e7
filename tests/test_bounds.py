import inspect
import unittest

from buildhall import bounds
from buildhall.bounds import bound
from buildhall.jobs import Job
from buildhall.plans import Plan, plan_of
from tests.helper import Draw, drawn_jobs, name_at


class Point64Bounds(unittest.TestCase):
    def test_arguments(self):
        self.assertEqual(list(inspect.signature(bounds.bound).parameters), ["plan", "term"])

    def test_one_job(self):
        for line, term, turns in (
            ("job a", 2, 3), ("job a", 10, 11), ("job a", 1000, 1001), ("job a span 7", 10, 17),
            ("job a span 7 tries 3", 10, 51), ("job a tries 3 wait 5", 10, 43), ("job a tries 4 wait 5 grow 2", 10, 79),
            ("job a tries 1 wait 1000 grow 4", 10, 11), ("job a span 1000 tries 20", 1000, 40000),
            ("job a tries 6 wait 1000 grow 4", 2, 18 + 185000), ("job a rank 99 tries 2 wait 0 grow 4", 3, 8),
            ("job a span 1000 tries 20 wait 1000 grow 4", 1000, 40000 + 85000 + 1500000),
        ):
            self.assertEqual(bound(plan_of([line]), term), turns)
            self.assertIs(type(bound(plan_of([line]), term)), int)

    def test_the_sum_over_all_jobs(self):
        self.assertEqual(bound(plan_of(["job a", "job b needs a", "job c span 5 tries 2 wait 3"]), 4), 5 + 5 + 18 + 3)
        jobs = [Job(name_at(at), None, 0, 1000, 20, 1000, 4) for at in range(40)]
        self.assertEqual(bound(Plan(jobs), 1000), 40 * (40000 + 85000 + 1500000))

    def test_drawn_plans(self):
        draw = Draw(64)
        for many in range(1, 41):
            jobs = drawn_jobs(draw, many, 3, rank=9, span=1000, tries=20, wait=1000, grow=4)
            term = draw.among(2, 1000)
            turns = 0
            for job in jobs:
                rest = job.wait
                turns += job.span + term
                for more in range(job.tries - 1):
                    turns += rest + job.span + term
                    rest = min(rest * job.grow, 100000)
            self.assertEqual(bound(Plan(jobs), term), turns)


if __name__ == "__main__":
    unittest.main()
