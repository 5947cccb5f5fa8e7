"""What is promised over the whole program: points 0, 1, 14, 47, 50, 54 and 64."""

import ast
import pathlib
import unittest

from buildhall.bounds import bound
from buildhall.errors import HallError
from buildhall.plans import Plan
from buildhall.reasons import standing, why_not
from buildhall.replays import go_on, replay
from buildhall.reports import report
from buildhall.runs import Run, run
from buildhall.shots import hall_of, shot
from tests.helper import Draw, drawn_jobs
from tests.model import drawn_deed, drawn_hall
from tests.test_halls import check_book
from tests.test_runs import drawn_events

PACKAGE = pathlib.Path(__file__).resolve().parent.parent / "buildhall"


def seen(hall):
    """All that can be asked of a hall, but its book."""
    names = [hall.plan.job_at(place).name for place in range(hall.plan.many())]
    return [shot(hall), report(hall), standing(hall), [why_not(hall, name) for name in names], hall.next_turn()]


def done_at(hall, deed):
    try:
        return getattr(hall, deed[0])(*deed[1:])
    except HallError as error:
        return type(error).__name__


class Point0(unittest.TestCase):
    def test_nothing_comes_from_outside(self):
        for path in PACKAGE.glob("*.py"):
            for node in ast.walk(ast.parse(path.read_text(encoding="ascii"))):
                self.assertNotIsInstance(node, ast.Import, path.name)
                if isinstance(node, ast.ImportFrom):
                    self.assertEqual(node.module.split(".")[0], "buildhall", path.name)

    def test_the_modules(self):
        due = "errors words jobs rings plans waits alarms leases states readies entries halls shots replays events"
        due += " builders bounds runs reasons reports desk"
        for name in due.split(" "):
            self.assertTrue((PACKAGE / (name + ".py")).is_file(), name)

    def test_the_same_twice(self):
        told = []
        for again in range(2):
            draw = Draw(99)
            plan = Plan(drawn_jobs(draw, 12, 3, rank=2, span=4, tries=3, wait=3, grow=2))
            events = drawn_events(draw, ["ann", "bob", "cy"], 30, 40)
            told.append(run(plan, 4, ["ann", "bob", "cy"], events, 60).hall.entries())
        self.assertEqual(told[0], told[1])


class Point50And54(unittest.TestCase):
    def test_a_shot_goes_on_alike_with_its_report_and_reasons(self):
        for seed in range(30):
            hall, model = drawn_hall(seed, 1 + seed % 20, 5 * seed % 90, rank=2, tries=4, wait=4, grow=3)
            again = hall_of(hall.plan, shot(hall))
            self.assertEqual(seen(again), seen(hall))
            draw = Draw(seed + 4000)
            for step in range(40):
                deed = drawn_deed(draw, model, ["ann", "bob", "cy", "zoe"])
                model.do(*deed)
                self.assertEqual(done_at(again, deed), done_at(hall, deed))
            self.assertEqual(seen(again), seen(hall))

    def test_a_book_of_a_run_cut_off_anywhere(self):
        for seed in range(6):
            draw = Draw(seed + 540)
            plan = Plan(drawn_jobs(draw, draw.among(2, 7), 3, rank=2, span=3, tries=3, wait=3, grow=2))
            events = drawn_events(draw, ["ann", "bob"], 20, 30)
            hall = run(plan, 3, ["ann", "bob"], events, 40).hall
            book = hall.entries()
            for place in range(len(book) + 1):
                again = replay(plan, 3, book[:place])
                self.assertEqual(again.entries()[:place], book[:place])
                halfway = hall_of(plan, shot(again))
                rest = book[len(again.entries()):]
                go_on(again, rest)
                go_on(halfway, rest)
                self.assertEqual(seen(again), seen(hall))
                self.assertEqual(seen(halfway), seen(hall))
                self.assertEqual((again.entries(), halfway.entries()), (book, rest))


class Point47And64(unittest.TestCase):
    def test_drawn_runs_turn_by_turn(self):
        for seed in range(30):
            draw = Draw(seed + 6400)
            jobs = drawn_jobs(draw, draw.among(1, 15), 3, rank=3, span=5, tries=3, wait=4, grow=3)
            plan = Plan(jobs)
            names = ["ann", "bob", "cy", "di"]
            term = draw.among(2, 5)
            last = bound(plan, term)
            going = Run(plan, term, names, drawn_events(draw, names[1:], 60, min(last, 120)))
            while not going.hall.is_ended():
                going.go()
                self.assertLessEqual(going.hall.turn, last)
                leases = going.hall.open_leases()
                self.assertEqual(len({lease[1] for lease in leases}), len(leases))
                self.assertEqual(len({lease[2] for lease in leases}), len(leases))
            check_book(self, jobs, term, going.hall)
            self.assertEqual(report(going.hall)[-1], f"over {going.hall.turn}")


if __name__ == "__main__":
    unittest.main()
