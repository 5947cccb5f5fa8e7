import inspect
import unittest

from buildhall.builders import AtWork, Builder, Fallen, Idle, Task
from buildhall.halls import Hall
from buildhall.plans import plan_of
from tests.model import all_told

LINES = ["job a span 4 tries 3 wait 2", "job b span 2 tries 2", "job c needs a", "job d span 1000"]


def told_task(task):
    if type(task) is AtWork:
        return ("work", task.number, task.left)
    return {Idle: "idle", Fallen: "fallen"}[type(task)]


class Interface(unittest.TestCase):
    def test_arguments(self):
        for call, arguments in (
            (Task, []), (Idle, []), (Fallen, []), (AtWork, ["number", "left"]), (Builder, ["name"]),
            (Task.act, ["self", "builder", "hall"]), (Idle.act, ["self", "builder", "hall"]),
            (AtWork.act, ["self", "builder", "hall"]), (Fallen.act, ["self", "builder", "hall"]),
            (Builder.act, ["self", "hall"]), (Builder.falls, ["self"]), (Builder.comes, ["self", "hall"]),
            (Builder.slips, ["self", "hall", "why"]), (Builder.mutes, ["self", "hall", "turns"]),
            (Builder.is_mute, ["self", "hall"]),
        ):
            self.assertEqual(list(inspect.signature(call).parameters), arguments)

    def test_classes(self):
        for kind in (Idle, AtWork, Fallen):
            self.assertEqual(kind.__bases__, (Task,))

    def test_fields(self):
        builder = Builder("ann")
        self.assertEqual((builder.name, builder.quiet), ("ann", 0))
        self.assertIs(type(builder.task), Idle)
        task = AtWork(7, 5)
        self.assertEqual((task.number, task.left), (7, 5))


class Beside(unittest.TestCase):
    """Each deed of a builder, held against a hall beside at which is done what is due."""

    def hall(self):
        """At turn 3 ann has a by lease 0, bob b by lease 1; lease 2 of cy is closed; nothing is ready."""
        hall = Hall(plan_of(LINES), 6)
        for worker in ("ann", "bob", "cy"):
            hall.ask(worker)
        hall.pass_on(3)
        hall.again("cy")
        return hall

    def test_the_hall_is_as_told(self):
        hall = self.hall()
        self.assertEqual(hall.states(), [("leased", 0, 0), ("leased", 0, 1), ("blocked", 1), ("broken", 1, "fell")])

    def cases(self):
        for task in (None, (0, 0), (0, 1), (0, 2), (0, 4), (1, 1), (1, 3), (2, 0), (2, 1), (2, 5), (9, 1), (9, 2), "fallen"):
            for quiet in (0, 2, 3, 4, 9):
                for name in ("ann", "zoe"):
                    yield (task, quiet, name)

    def made(self, task, quiet, name):
        builder = Builder(name)
        builder.quiet = quiet
        if task == "fallen":
            builder.task = Fallen()
        elif task is not None:
            builder.task = AtWork(*task)
        return builder

    def held(self, case, deed, due_task, due_quiet, due):
        """The deed at one hall, what is due at the other, and all alike behind it."""
        hall = self.hall()
        beside = self.hall()
        builder = self.made(*case)
        self.assertIsNone(deed(builder, hall))
        due(beside)
        self.assertEqual(all_told(hall), all_told(beside), case)
        self.assertEqual(told_task(builder.task), due_task, case)
        self.assertEqual((builder.name, builder.quiet), (case[2], due_quiet), case)

    def test_act(self):
        """Point 61."""
        for case in self.cases():
            task, quiet, name = case
            mute = quiet > 3
            due = lambda hall: None
            if task == "fallen":
                due_task = "fallen"
            elif task is None:
                # Nothing is ready at this hall.
                due_task = "idle"
            else:
                number, left = task[0], max(task[1] - 1, 0)
                due_task = ("work", number, left)
                if not mute and number in (0, 1):
                    due = (lambda hall: hall.renew(number)) if left else (lambda hall: hall.done(number))
                if not mute and (left == 0 or number not in (0, 1)):
                    due_task = "idle"
            self.held(case, lambda builder, hall: builder.act(hall), due_task, quiet, due)

    def test_falls(self):
        """Point 62."""
        for case in self.cases():
            self.held(case, lambda builder, hall: builder.falls(), "fallen", case[1], lambda hall: None)

    def test_comes(self):
        for case in self.cases():
            task, quiet, name = case
            if task == "fallen":
                self.held(case, lambda builder, hall: builder.comes(hall), "idle", 0, lambda hall: hall.again(name))
            else:
                due_task = "idle" if task is None else ("work",) + task
                self.held(case, lambda builder, hall: builder.comes(hall), due_task, quiet, lambda hall: None)

    def test_slips(self):
        for case in self.cases():
            task, quiet, name = case
            due = lambda hall: None
            due_task = task if task == "fallen" else "idle" if task is None else ("work",) + task
            if type(task) is tuple and quiet <= 3:
                due_task = "idle"
                if task[0] in (0, 1):
                    due = lambda hall: hall.fail(task[0], "rain")
            self.held(case, lambda builder, hall: builder.slips(hall, "rain"), due_task, quiet, due)

    def test_mutes(self):
        for case in self.cases():
            task, quiet, name = case
            due_task = task if task == "fallen" else "idle" if task is None else ("work",) + task
            for turns in (1, 2, 5, 6, 7, 1000):
                due_quiet = max(quiet, 3 + turns)
                self.held(
                    case, lambda builder, hall: builder.mutes(hall, turns), due_task, due_quiet, lambda hall: None
                )

    def test_is_mute(self):
        hall = self.hall()
        for quiet, mute in ((0, False), (2, False), (3, False), (4, True), (1000, True)):
            builder = self.made(None, quiet, "ann")
            self.assertIs(builder.is_mute(hall), mute)


class Point61Asking(unittest.TestCase):
    def test_told_a_lease(self):
        hall = Hall(plan_of(LINES), 6)
        hall.pass_on(2)
        builder = Builder("ann")
        builder.act(hall)
        self.assertEqual(told_task(builder.task), ("work", 0, 4))
        self.assertEqual(hall.entries(), [("turn", 2), ("lease", 0, 0, "ann", 8)])
        other = Builder("bob")
        other.act(hall)
        self.assertEqual(told_task(other.task), ("work", 1, 2))
        third = Builder("cy")
        third.act(hall)
        self.assertEqual(told_task(third.task), ("work", 2, 1000))
        fourth = Builder("di")
        fourth.act(hall)
        self.assertEqual(told_task(fourth.task), "idle")
        self.assertEqual(len(hall.entries()), 4)

    def test_mute_it_does_not_ask(self):
        hall = Hall(plan_of(LINES), 6)
        builder = Builder("ann")
        builder.mutes(hall, 2)
        for turn in range(2):
            builder.act(hall)
            self.assertEqual(told_task(builder.task), "idle")
            hall.pass_on()
        builder.act(hall)
        self.assertEqual(told_task(builder.task), ("work", 0, 4))

    def test_a_name_with_a_lease_from_elsewhere(self):
        hall = Hall(plan_of(LINES), 6)
        hall.ask("ann")
        before = all_told(hall)
        builder = Builder("ann")
        builder.act(hall)
        self.assertEqual(told_task(builder.task), "idle")
        self.assertEqual(all_told(hall), before)

    def test_a_job_from_begin_to_end(self):
        hall = Hall(plan_of(["job a span 3"]), 2)
        builder = Builder("ann")
        seen = []
        for turn in range(5):
            builder.act(hall)
            seen.append(told_task(builder.task))
            hall.pass_on()
        self.assertEqual(seen, [("work", 0, 3), ("work", 0, 2), ("work", 0, 1), "idle", "idle"])
        self.assertEqual(hall.entries(), [
            ("lease", 0, 0, "ann", 2), ("turn", 1), ("renew", 0, 3), ("turn", 2), ("renew", 0, 4), ("turn", 3),
            ("done", 0), ("turn", 4), ("turn", 5),
        ])

    def test_work_goes_on_while_mute_and_is_told_behind_it(self):
        hall = Hall(plan_of(["job a span 3"]), 9)
        builder = Builder("ann")
        builder.act(hall)
        builder.mutes(hall, 6)
        seen = []
        for turn in range(6):
            hall.pass_on()
            builder.act(hall)
            seen.append(told_task(builder.task))
        self.assertEqual(seen, [("work", 0, 2), ("work", 0, 1), ("work", 0, 0), ("work", 0, 0), ("work", 0, 0), "idle"])
        self.assertEqual(hall.state("a"), ("done", 0, 0, 6))

    def test_the_lease_of_a_mute_one_runs_out(self):
        hall = Hall(plan_of(["job a span 9 tries 2"]), 3)
        builder = Builder("ann")
        builder.act(hall)
        builder.mutes(hall, 5)
        for turn in range(5):
            self.assertEqual(told_task(builder.task)[0], "work")
            hall.pass_on()
            builder.act(hall)
        self.assertEqual(told_task(builder.task), "idle")
        self.assertEqual(hall.state("a"), ("ready", 1))

    def test_a_task_changes_nothing_of_the_builder(self):
        hall = Hall(plan_of(LINES), 6)
        hall.ask("bob")
        for task in (Idle(), AtWork(0, 3), AtWork(0, 1), AtWork(5, 2), Fallen()):
            builder = Builder("ann")
            kept = builder.task
            before = told_task(task)
            behind = task.act(builder, hall)
            self.assertIsInstance(behind, Task)
            self.assertIs(builder.task, kept)
            self.assertEqual((builder.name, builder.quiet), ("ann", 0))
            self.assertEqual(told_task(task), before)

    def test_a_task_by_itself_acts_by_its_number(self):
        hall = Hall(plan_of(LINES), 6)
        hall.ask("bob")
        hall.pass_on(2)
        stranger = Builder("zoe")
        self.assertEqual(told_task(AtWork(0, 3).act(stranger, hall)), ("work", 0, 2))
        self.assertEqual(hall.open_leases(), [(0, 0, "bob", 0, 8)])
        self.assertEqual(told_task(AtWork(0, 1).act(stranger, hall)), "idle")
        self.assertEqual(hall.state("a"), ("done", 0, 0, 2))
        self.assertEqual(told_task(AtWork(0, 1).act(stranger, hall)), "idle")
        self.assertEqual(told_task(AtWork(0, 9).act(stranger, hall)), "idle")
        self.assertEqual(told_task(Fallen().act(stranger, hall)), "fallen")


class Point62Happenings(unittest.TestCase):
    def test_falls_and_comes(self):
        hall = Hall(plan_of(["job a span 9 tries 3 wait 2", "job b"]), 6)
        builder = Builder("ann")
        builder.act(hall)
        builder.mutes(hall, 50)
        builder.falls()
        self.assertEqual(len(hall.open_leases()), 1)
        builder.act(hall)
        builder.mutes(hall, 60)
        self.assertEqual((told_task(builder.task), builder.quiet), ("fallen", 60))
        hall.pass_on(1)
        builder.comes(hall)
        self.assertEqual((told_task(builder.task), builder.quiet), ("idle", 0))
        self.assertEqual(hall.entries()[-2:], [("fail", 0, "fell"), ("rest", 0, 3)])
        builder.act(hall)
        self.assertEqual(told_task(builder.task), ("work", 1, 1))

    def test_comes_behind_its_lease_ran_out(self):
        hall = Hall(plan_of(["job a span 9 tries 3"]), 6)
        builder = Builder("ann")
        builder.act(hall)
        builder.falls()
        hall.pass_on(6)
        before = all_told(hall)
        builder.comes(hall)
        self.assertEqual(all_told(hall), before)
        self.assertEqual(told_task(builder.task), "idle")

    def test_falls_twice(self):
        builder = Builder("ann")
        builder.falls()
        builder.falls()
        self.assertEqual(told_task(builder.task), "fallen")

    def test_slips(self):
        hall = Hall(plan_of(["job a span 9 tries 2"]), 6)
        builder = Builder("ann")
        builder.slips(hall, "rain")
        self.assertEqual(hall.entries(), [])
        builder.act(hall)
        builder.slips(hall, "rain")
        self.assertEqual(hall.entries()[1:], [("fail", 0, "rain"), ("ready", 0)])
        self.assertEqual(told_task(builder.task), "idle")

    def test_muted_twice(self):
        hall = Hall(plan_of(["job a"]), 6)
        builder = Builder("ann")
        builder.mutes(hall, 9)
        builder.mutes(hall, 4)
        self.assertEqual(builder.quiet, 9)
        hall.pass_on(5)
        builder.mutes(hall, 3)
        self.assertEqual(builder.quiet, 9)
        builder.mutes(hall, 4)
        self.assertEqual(builder.quiet, 9)
        builder.mutes(hall, 5)
        self.assertEqual(builder.quiet, 10)


if __name__ == "__main__":
    unittest.main()
