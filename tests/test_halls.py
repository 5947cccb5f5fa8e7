import inspect
import unittest

from buildhall.alarms import Alarms
from buildhall.entries import entry_line, entry_of, is_entry
from buildhall.errors import BadName, BadTerm, BadTurn, Busy, Gone, HallError, NoJob
from buildhall.halls import Hall
from buildhall.jobs import Job
from buildhall.leases import Leases
from buildhall.plans import Plan, plan_of
from buildhall.readies import Readies
from buildhall.states import State
from tests.helper import NO_NAMES, NO_NUMBERS, NO_TEXTS, NO_WHOLES, Draw, drawn_jobs, refused, shown
from tests.model import Model, all_told, drawn_deed, rest, same

MOST_TURN = 1000000000


def hall_by(*lines, term=10):
    return Hall(plan_of(list(lines)), term)


def refused_and_as_it_was(test, kind, hall, deed, *given):
    before = all_told(hall)
    refused(test, kind, getattr(hall, deed), *given)
    test.assertEqual(all_told(hall), before, shown((deed, given)))


class Interface(unittest.TestCase):
    def test_arguments(self):
        self.assertEqual(str(inspect.signature(Hall)), "(plan, term=10)")
        self.assertEqual(str(inspect.signature(Hall.pass_on)), "(self, turns=1)")
        for name, arguments in {
            "ask": ["worker"], "renew": ["number"], "done": ["number"], "fail": ["number", "why"], "again": ["worker"],
            "state": ["name"], "states": [], "open_leases": [], "next_turn": [], "entries": [], "is_ended": [],
        }.items():
            self.assertEqual(list(inspect.signature(getattr(Hall, name)).parameters), ["self"] + arguments)

    def test_fields(self):
        plan = plan_of(["job a", "job b needs a"])
        hall = Hall(plan, 7)
        for turn in range(2):
            self.assertEqual(
                sorted(vars(hall)), ["alarms", "book", "leases", "plan", "readies", "stands", "turn"]
            )
            self.assertIs(hall.plan, plan)
            self.assertEqual([type(hall.leases), type(hall.alarms), type(hall.readies)], [Leases, Alarms, Readies])
            self.assertEqual([type(hall.turn), type(hall.book), type(hall.stands)], [int, list, list])
            self.assertTrue(all(isinstance(state, State) for state in hall.stands))
            self.assertEqual(len(hall.stands), 2)
            self.assertEqual(hall.book, hall.entries())
            self.assertEqual([state.told() for state in hall.stands], hall.states())
            hall.again("ann")
            hall.ask("ann")
            hall.pass_on(3)


class Point41AtFirst(unittest.TestCase):
    def test_at_first(self):
        hall = hall_by("job a needs b c", "job b rank 3", "job c needs b", "job d")
        self.assertEqual(hall.turn, 0)
        self.assertEqual(hall.entries(), [])
        self.assertEqual(hall.states(), [("blocked", 2), ("ready", 0), ("blocked", 1), ("ready", 0)])
        self.assertEqual(hall.readies.rows(), [(1, 3, 0), (3, 0, 0)])
        self.assertEqual((hall.open_leases(), hall.next_turn(), hall.alarms.rows()), ([], None, []))
        self.assertIs(hall.is_ended(), False)

    def test_terms(self):
        plan = plan_of(["job a"])
        self.assertEqual(Hall(plan).leases.term, 10)
        for term in (2, 3, 1000):
            self.assertEqual(Hall(plan, term).leases.term, term)
            self.assertEqual(Hall(plan, term=term).ask("ann"), [("lease", 0, 0, "ann", term)])
        for term in NO_WHOLES + NO_TEXTS[7:] + (1, 0, -1, 1001, 10 ** 30, 10 ** 5000, "10", [10]):
            refused(self, BadTerm, Hall, plan, term)

    def test_state(self):
        hall = hall_by("job a needs b", "job b")
        self.assertEqual(hall.state("a"), ("blocked", 1))
        self.assertEqual(hall.state("b"), ("ready", 0))
        for thing in NO_NAMES + ("c", "aa", ["a"], ("a",), {"a": 1}, 0):
            self.assertEqual(refused(self, NoJob, hall.state, thing).name, thing)


class Point42Leases(unittest.TestCase):
    def test_ask(self):
        hall = hall_by("job a", "job b rank 1", "job c rank 1")
        hall.pass_on(3)
        self.assertEqual(hall.ask("ann"), [("lease", 0, 1, "ann", 13)])
        self.assertEqual(hall.ask("bob"), [("lease", 1, 2, "bob", 13)])
        self.assertEqual(hall.ask("cy"), [("lease", 2, 0, "cy", 13)])
        self.assertEqual(hall.ask("di"), [])
        self.assertEqual(hall.entries(), [
            ("turn", 3), ("lease", 0, 1, "ann", 13), ("lease", 1, 2, "bob", 13), ("lease", 2, 0, "cy", 13),
        ])
        self.assertEqual(hall.states(), [("leased", 0, 2), ("leased", 0, 0), ("leased", 0, 1)])
        self.assertEqual(
            hall.open_leases(), [(0, 1, "ann", 3, 13), (1, 2, "bob", 3, 13), (2, 0, "cy", 3, 13)]
        )
        self.assertEqual(hall.alarms.rows(), [(13, 0, 0), (13, 0, 1), (13, 0, 2)])

    def test_the_one_ready_for_longest_goes_first(self):
        hall = hall_by("job a tries 3", "job b", "job c")
        hall.ask("ann")
        hall.pass_on(1)
        hall.fail(0, "slip")
        self.assertEqual(hall.readies.rows(), [(1, 0, 0), (2, 0, 0), (0, 0, 1)])
        self.assertEqual(hall.ask("ann"), [("lease", 1, 1, "ann", 11)])

    def test_nothing_ready(self):
        hall = hall_by("job a", "job b needs a")
        hall.ask("ann")
        before = all_told(hall)
        self.assertEqual(hall.ask("bob"), [])
        self.assertEqual(all_told(hall), before)

    def test_bad_name_then_busy(self):
        hall = hall_by("job a", "job b")
        for worker in NO_NAMES:
            refused_and_as_it_was(self, BadName, hall, "ask", worker)
        hall.ask("ann")
        for worker in NO_NAMES:
            refused_and_as_it_was(self, BadName, hall, "ask", worker)
        refused_and_as_it_was(self, Busy, hall, "ask", "ann")
        hall.ask("bob")
        # None is ready any more.
        refused_and_as_it_was(self, Busy, hall, "ask", "ann")
        refused_and_as_it_was(self, BadName, hall, "ask", "Ann")
        self.assertEqual(hall.ask("cy"), [])

    def test_renew(self):
        hall = hall_by("job a", "job b", term=5)
        hall.ask("ann")
        self.assertEqual(hall.renew(0), [("renew", 0, 5)])
        hall.pass_on(4)
        self.assertEqual(hall.renew(0), [("renew", 0, 9)])
        self.assertEqual(hall.renew(0), [("renew", 0, 9)])
        self.assertEqual(hall.open_leases(), [(0, 0, "ann", 0, 9)])
        self.assertEqual(hall.alarms.rows(), [(9, 0, 0)])
        self.assertEqual(hall.pass_on(4), [("turn", 8)])
        self.assertEqual(hall.pass_on(1), [("turn", 9), ("out", 0), ("break", 0)])

    def test_gone(self):
        hall = hall_by("job a tries 9", "job b tries 9", "job c")
        for worker in ("ann", "bob"):
            hall.ask(worker)
        hall.fail(1, "slip")
        for deed, more in (("renew", ()), ("done", ()), ("fail", ("slip",)), ("fail", ("No Name",)), ("fail", (None,))):
            for number in NO_NUMBERS + (1, 2, 3, -1, 100):
                refused_and_as_it_was(self, Gone, hall, deed, number, *more)

    def test_gone_then_bad_name(self):
        hall = hall_by("job a")
        hall.ask("ann")
        for why in NO_NAMES:
            refused_and_as_it_was(self, BadName, hall, "fail", 0, why)
            refused_and_as_it_was(self, Gone, hall, "fail", 1, why)
            refused_and_as_it_was(self, Gone, hall, "fail", False, why)
        self.assertEqual(hall.fail(0, "slip"), [("fail", 0, "slip"), ("break", 0)])


class Point43Done(unittest.TestCase):
    def test_done(self):
        hall = hall_by("job a", "job b needs a", "job c needs a d", "job d", "job e needs a")
        hall.ask("ann")
        hall.pass_on(4)
        self.assertEqual(hall.done(0), [("done", 0), ("ready", 1), ("ready", 4)])
        self.assertEqual(
            hall.states(), [("done", 0, 0, 4), ("ready", 0), ("blocked", 1), ("ready", 0), ("ready", 0)]
        )
        self.assertEqual(hall.readies.rows(), [(3, 0, 0), (1, 0, 4), (4, 0, 4)])
        self.assertEqual((hall.open_leases(), hall.alarms.rows(), hall.next_turn()), ([], [], None))
        self.assertEqual(hall.entries(), [
            ("lease", 0, 0, "ann", 10), ("turn", 4), ("done", 0), ("ready", 1), ("ready", 4),
        ])
        hall.ask("ann")
        self.assertEqual(hall.done(1), [("done", 1), ("ready", 2)])

    def test_cut_ones_stay_cut(self):
        hall = hall_by("job a", "job b", "job c needs a b")
        hall.ask("ann")
        hall.ask("bob")
        self.assertEqual(hall.fail(1, "slip"), [("fail", 1, "slip"), ("break", 1), ("cut", 2, 1)])
        self.assertEqual(hall.done(0), [("done", 0)])
        self.assertEqual(hall.state("c"), ("cut", 1))
        self.assertIs(hall.is_ended(), True)

    def test_the_last_one_ends_the_hall(self):
        hall = hall_by("job a", "job b needs a")
        for number in range(2):
            self.assertIs(hall.is_ended(), False)
            hall.ask("ann")
            self.assertIs(hall.is_ended(), False)
            hall.done(number)
        self.assertIs(hall.is_ended(), True)

    def test_whoever_tells_it(self):
        hall = hall_by("job a tries 2 wait 3")
        hall.ask("ann")
        hall.fail(0, "slip")
        hall.pass_on(3)
        hall.ask("bob")
        hall.pass_on(2)
        self.assertEqual(hall.done(1), [("done", 1)])
        self.assertEqual(hall.state("a"), ("done", 1, 1, 5))


class Point44Failings(unittest.TestCase):
    def test_rests(self):
        hall = hall_by("job a tries 4 wait 3 grow 2")
        for number, rests in enumerate((3, 6, 12)):
            hall.ask("ann")
            hall.pass_on(2)
            until = hall.turn + rests
            self.assertEqual(hall.fail(number, "slip"), [("fail", number, "slip"), ("rest", 0, until)])
            self.assertEqual(hall.state("a"), ("resting", number + 1, until))
            self.assertEqual(hall.alarms.rows(), [(until, 1, 0)])
            self.assertEqual(hall.ask("bob"), [])
            self.assertEqual(hall.pass_on(rests - 1), [("turn", until - 1)])
            self.assertEqual(hall.pass_on(1), [("turn", until), ("ready", 0)])
            self.assertEqual(hall.readies.rows(), [(0, 0, until)])
        hall.ask("ann")
        self.assertEqual(hall.fail(3, "rain"), [("fail", 3, "rain"), ("break", 0)])
        self.assertEqual(hall.state("a"), ("broken", 4, "rain"))
        self.assertIs(hall.is_ended(), True)

    def test_no_rest(self):
        hall = hall_by("job a tries 2")
        hall.ask("ann")
        hall.pass_on(2)
        self.assertEqual(hall.fail(0, "slip"), [("fail", 0, "slip"), ("ready", 0)])
        self.assertEqual(hall.readies.rows(), [(0, 0, 2)])
        self.assertEqual(hall.state("a"), ("ready", 1))

    def test_running_out(self):
        hall = hall_by("job a tries 3 wait 4", "job b needs a", term=5)
        hall.ask("ann")
        self.assertEqual(hall.pass_on(5), [("turn", 5), ("out", 0), ("rest", 0, 9)])
        self.assertEqual(hall.pass_on(4), [("turn", 9), ("ready", 0)])
        hall.ask("ann")
        self.assertEqual(hall.pass_on(9), [("turn", 14), ("out", 1), ("rest", 0, 18), ("turn", 18), ("ready", 0)])
        hall.ask("ann")
        self.assertEqual(hall.pass_on(10), [("turn", 23), ("out", 2), ("break", 0), ("cut", 1, 0), ("turn", 28)])
        self.assertEqual(hall.state("a"), ("broken", 3, "out"))

    def test_cut_off_along_a_row(self):
        # a is needed by f and c; c by b; f by e and b; b and e by d: the row is a, c, f, b, e, d.
        hall = hall_by(
            "job a", "job b needs f c", "job c needs a", "job d needs b e", "job e needs f", "job f needs a g",
            "job g", "job h needs g",
        )
        hall.ask("ann")
        self.assertEqual(hall.fail(0, "slip"), [
            ("fail", 0, "slip"), ("break", 0), ("cut", 2, 0), ("cut", 5, 0), ("cut", 1, 2), ("cut", 4, 5), ("cut", 3, 1),
        ])
        self.assertEqual(hall.states(), [
            ("broken", 1, "slip"), ("cut", 2), ("cut", 0), ("cut", 1), ("cut", 5), ("cut", 0), ("ready", 0),
            ("blocked", 1),
        ])

    def test_the_row_goes_by_breadth(self):
        hall = hall_by("job a", "job b needs a", "job c needs a", "job d needs b", "job e needs c d")
        hall.ask("ann")
        self.assertEqual(hall.fail(0, "slip")[1:], [
            ("break", 0), ("cut", 1, 0), ("cut", 2, 0), ("cut", 3, 1), ("cut", 4, 2),
        ])

    def test_two_breaks(self):
        hall = hall_by("job a", "job b", "job c needs a b", "job d needs c", "job e needs b")
        hall.ask("ann")
        hall.ask("bob")
        self.assertEqual(hall.fail(0, "slip")[1:], [("break", 0), ("cut", 2, 0), ("cut", 3, 2)])
        self.assertEqual(hall.fail(1, "slip")[1:], [("break", 1), ("cut", 4, 1)])


class Point45Again(unittest.TestCase):
    def test_with_a_lease(self):
        hall = hall_by("job a tries 2 wait 2", "job b")
        hall.ask("ann")
        self.assertEqual(hall.again("ann"), [("fail", 0, "fell"), ("rest", 0, 2)])
        self.assertEqual(hall.again("ann"), [])
        hall.pass_on(2)
        hall.ask("bob")
        hall.ask("ann")
        self.assertEqual(hall.again("ann"), [("fail", 2, "fell"), ("break", 0)])
        self.assertEqual(hall.state("a"), ("broken", 2, "fell"))
        self.assertEqual(hall.state("b"), ("leased", 0, 1))

    def test_without_one(self):
        hall = hall_by("job a")
        before = all_told(hall)
        self.assertEqual(hall.again("ann"), [])
        self.assertEqual(all_told(hall), before)

    def test_names(self):
        hall = hall_by("job a")
        hall.ask("ann")
        for worker in NO_NAMES:
            refused_and_as_it_was(self, BadName, hall, "again", worker)


class Point46Turns(unittest.TestCase):
    def test_by_one_turn(self):
        hall = hall_by("job a")
        self.assertEqual(hall.pass_on(), [("turn", 1)])
        self.assertEqual(hall.pass_on(turns=5), [("turn", 6)])
        self.assertEqual((hall.turn, hall.entries()), (6, [("turn", 1), ("turn", 6)]))

    def test_by_nought(self):
        hall = hall_by("job a tries 2", "job b")
        for deed in (lambda: hall.ask("ann"), lambda: hall.pass_on(9), lambda: hall.pass_on(1), lambda: hall.ask("bob")):
            deed()
            before = all_told(hall)
            self.assertEqual(hall.pass_on(0), [])
            self.assertEqual(all_told(hall), before)

    def test_as_the_clock_comes_to_the_turn(self):
        hall = hall_by("job a")
        hall.ask("ann")
        self.assertEqual(hall.pass_on(9), [("turn", 9)])
        self.assertEqual(hall.renew(0), [("renew", 0, 19)])
        self.assertEqual(hall.pass_on(9), [("turn", 18)])
        self.assertEqual(hall.done(0), [("done", 0)])

    def test_several_alarms(self):
        hall = hall_by("job a tries 5 wait 2", "job b tries 5 wait 3", "job c tries 5", term=6)
        for worker in ("ann", "bob", "cy"):
            hall.ask(worker)
        hall.pass_on(1)
        hall.renew(2)
        self.assertEqual(hall.pass_on(20), [
            ("turn", 6), ("out", 0), ("rest", 0, 8), ("out", 1), ("rest", 1, 9),
            ("turn", 7), ("out", 2), ("ready", 2), ("turn", 8), ("ready", 0), ("turn", 9), ("ready", 1), ("turn", 21),
        ])
        self.assertEqual(hall.readies.rows(), [(2, 0, 7), (0, 0, 8), (1, 0, 9)])

    def test_leases_ahead_of_rests_then_by_numbers(self):
        hall = hall_by("job a tries 2 wait 8", "job b tries 2", "job c tries 2 wait 8", "job d", term=8)
        for worker in ("ann", "bob", "cy", "di"):
            hall.ask(worker)
        hall.fail(2, "slip")
        hall.fail(0, "slip")
        self.assertEqual(hall.alarms.rows(), [(8, 0, 1), (8, 0, 3), (8, 1, 0), (8, 1, 2)])
        self.assertEqual(hall.next_turn(), 8)
        self.assertEqual(hall.pass_on(8), [
            ("turn", 8), ("out", 1), ("ready", 1), ("out", 3), ("break", 3), ("ready", 0), ("ready", 2),
        ])
        self.assertIsNone(hall.next_turn())

    def test_just_at_the_goal_no_turn_stands_twice(self):
        hall = hall_by("job a", term=4)
        hall.ask("ann")
        self.assertEqual(hall.pass_on(4), [("turn", 4), ("out", 0), ("break", 0)])
        self.assertEqual(hall.turn, 4)

    def test_in_steps_and_at_once(self):
        whole = hall_by("job a tries 5 wait 2 grow 3", "job b tries 3 wait 1", term=3)
        steps = hall_by("job a tries 5 wait 2 grow 3", "job b tries 3 wait 1", term=3)
        for hall in (whole, steps):
            hall.ask("ann")
            hall.ask("bob")
        whole.pass_on(30)
        for turn in range(30):
            steps.pass_on(1)
        self.assertEqual(whole.states(), steps.states())
        self.assertEqual(
            [entry for entry in whole.entries() if entry[0] != "turn"],
            [entry for entry in steps.entries() if entry[0] != "turn"],
        )

    def test_to_the_most_turn_and_no_farther(self):
        hall = hall_by("job a tries 2")
        refused_and_as_it_was(self, BadTurn, hall, "pass_on", MOST_TURN + 1)
        self.assertEqual(hall.pass_on(MOST_TURN), [("turn", MOST_TURN)])
        self.assertEqual(hall.pass_on(0), [])
        for turns in (1, 2, MOST_TURN):
            refused_and_as_it_was(self, BadTurn, hall, "pass_on", turns)
        other = hall_by("job a")
        other.pass_on(MOST_TURN - 5)
        refused_and_as_it_was(self, BadTurn, other, "pass_on", 6)
        self.assertEqual(other.pass_on(5), [("turn", MOST_TURN)])

    def test_alarms_beyond_the_most_turn(self):
        hall = hall_by("job a", "job b tries 2 wait 1000", term=6)
        hall.pass_on(MOST_TURN - 6)
        hall.ask("ann")
        hall.ask("bob")
        hall.pass_on(1)
        hall.renew(0)
        hall.fail(1, "slip")
        self.assertEqual(hall.pass_on(5), [("turn", MOST_TURN)])
        self.assertEqual(hall.next_turn(), MOST_TURN + 1)
        self.assertEqual(hall.open_leases(), [(0, 0, "ann", MOST_TURN - 6, MOST_TURN + 1)])
        self.assertEqual(hall.state("b"), ("resting", 1, MOST_TURN + 995))
        self.assertEqual(hall.renew(0), [("renew", 0, MOST_TURN + 6)])
        self.assertEqual(hall.done(0), [("done", 0)])
        refused_and_as_it_was(self, BadTurn, hall, "pass_on", 1)

    def test_just_at_the_most_turn(self):
        hall = hall_by("job a", term=6)
        hall.pass_on(MOST_TURN - 6)
        hall.ask("ann")
        self.assertEqual(hall.pass_on(6), [("turn", MOST_TURN), ("out", 0), ("break", 0)])

    def test_no_turns(self):
        hall = hall_by("job a")
        hall.ask("ann")
        for turns in NO_WHOLES + NO_TEXTS[7:] + (-1, -2, -MOST_TURN, 10 ** 30, 10 ** 5000, "1", [1], (1,)):
            refused_and_as_it_was(self, BadTurn, hall, "pass_on", turns)


class DrawnDeeds(unittest.TestCase):
    """Points 41 to 47, deed by deed, against the model."""

    def one(self, seed, many, deeds, **most):
        draw = Draw(seed)
        jobs = drawn_jobs(draw, many, 3, **most)
        term = draw.among(2, 9)
        hall = Hall(Plan(jobs), term)
        model = Model(jobs, term)
        workers = ["ann", "bob", "cy", "di", "ed"][:draw.among(1, 5)]
        words = set()
        for step in range(deeds):
            deed = drawn_deed(draw, model, workers)
            due = model.do(*deed)
            try:
                wrote = getattr(hall, deed[0])(*deed[1:])
            except HallError as error:
                wrote = type(error).__name__
            self.assertEqual(wrote, due, (seed, step, deed))
            same(self, hall, model)
            words.update(told[0] for told in model.told)
        check_book(self, jobs, term, hall)
        return words

    def test_drawn_deeds(self):
        words = set()
        for seed in range(60):
            words.update(self.one(seed, 1 + seed % 12, 150, rank=2, tries=4, wait=4, grow=3))
        self.assertEqual(words, {"blocked", "ready", "leased", "resting", "done", "broken", "cut"})

    def test_long_drawn_deeds(self):
        self.one(1001, 40, 1200, rank=3, tries=20, wait=6, grow=2)
        self.one(1002, 30, 1200, rank=1, tries=6, wait=2, grow=1)
        self.one(1003, 40, 600, rank=99, tries=2, wait=1000, grow=4)


def check_book(test, jobs, term, hall):
    """Point 47, of what the book alone tells."""
    places = {job.name: place for place, job in enumerate(jobs)}
    turn = 0
    held = {}
    done = []
    fails = [0] * len(jobs)
    free = [0] * len(jobs)
    told = [("blocked", len(job.needs)) if job.needs else ("ready", 0) for job in jobs]
    for at, entry in enumerate(hall.entries()):
        test.assertTrue(is_entry(entry))
        test.assertEqual(entry_of(entry_line(entry)), entry)
        word = entry[0]
        if word == "turn":
            test.assertGreater(entry[1], turn)
            turn = entry[1]
        elif word == "lease":
            number, place, worker, end = entry[1:]
            test.assertNotIn(place, [row[0] for row in held.values()])
            test.assertNotIn(worker, [row[1] for row in held.values()])
            test.assertNotIn(place, done)
            test.assertTrue(all(places[need] in done for need in jobs[place].needs))
            test.assertGreaterEqual(turn, free[place])
            test.assertEqual(end, turn + term)
            held[number] = (place, worker)
            told[place] = ("leased", fails[place], number)
        elif word == "renew":
            test.assertIn(entry[1], held)
        elif word == "done":
            place = held.pop(entry[1])[0]
            done.append(place)
            told[place] = ("done", fails[place], entry[1], turn)
            for other, job in enumerate(jobs):
                if jobs[place].name in job.needs and told[other][0] == "blocked":
                    left = told[other][1] - 1
                    told[other] = ("blocked", left) if left else ("ready", 0)
        elif word in ("fail", "out"):
            place = held.pop(entry[1])[0]
            fails[place] += 1
            test.assertLessEqual(fails[place], jobs[place].tries)
            why = entry[2] if word == "fail" else "out"
            behind = rest(jobs[place], fails[place])
            free[place] = turn + behind
            told[place] = ("resting", fails[place], turn + behind) if behind else ("ready", fails[place])
            if fails[place] == jobs[place].tries:
                told[place] = ("broken", fails[place], why)
        elif word == "ready":
            test.assertGreaterEqual(turn, free[entry[1]])
            told[entry[1]] = ("ready", fails[entry[1]])
        elif word == "cut":
            told[entry[1]] = ("cut", entry[2])
    test.assertEqual(len(done), len(set(done)))
    test.assertEqual(told, hall.states())
    test.assertEqual(turn, hall.turn)
    test.assertEqual(sorted(held), [lease[0] for lease in hall.open_leases()])


class Point14HandedInAndTold(unittest.TestCase):
    def test_what_is_told_is_the_askers_own(self):
        hall = hall_by("job a tries 3", "job b needs a", "job c")
        wrote = hall.ask("ann")
        asked = [hall.states(), hall.open_leases(), hall.entries(), hall.alarms.rows(), hall.readies.rows(), wrote]
        kept = [list(row) for row in asked]
        before = all_told(hall)
        for row in (hall.states(), hall.open_leases(), hall.entries(), hall.alarms.rows(), hall.readies.rows()):
            row.clear()
            row.append(7)
        self.assertEqual(all_told(hall), before)
        hall.pass_on(3)
        hall.renew(0)
        hall.fail(0, "slip")
        hall.ask("bob")
        self.assertEqual(asked, kept)

    def test_a_deeds_entries_are_not_the_book(self):
        hall = hall_by("job a", "job b")
        for deed in (
            lambda: hall.ask("ann"), lambda: hall.renew(0), lambda: hall.pass_on(2), lambda: hall.done(0),
            lambda: hall.ask("ann"), lambda: hall.fail(1, "slip"), lambda: hall.again("ann"), lambda: hall.ask("ann"),
            lambda: hall.pass_on(0),
        ):
            many = len(hall.entries())
            wrote = deed()
            self.assertIs(type(wrote), list)
            self.assertEqual(hall.entries()[many:], wrote)
            book = hall.entries()
            wrote.append("x")
            self.assertEqual(hall.entries(), book)

    def test_the_jobs_list_may_be_emptied(self):
        jobs = [Job("a"), Job("b", ["a"])]
        hall = Hall(Plan(jobs))
        jobs.clear()
        hall.ask("ann")
        self.assertEqual(hall.done(0), [("done", 0), ("ready", 1)])

    def test_two_halls_of_one_plan_keep_apart(self):
        plan = plan_of(["job a", "job b needs a"])
        first = Hall(plan)
        second = Hall(plan)
        before = all_told(second)
        first.ask("ann")
        first.pass_on(2)
        first.done(0)
        self.assertEqual(all_told(second), before)

    def test_refused_once_and_taken_when_made_good(self):
        hall = hall_by("job a", "job b")
        refused(self, BadName, hall.ask, "Ann")
        hall.ask("ann")
        refused(self, Busy, hall.ask, "ann")
        refused(self, Gone, hall.done, 1)
        hall.ask("bob")
        self.assertEqual(hall.done(1), [("done", 1)])
        hall.done(0)
        self.assertEqual(hall.ask("ann"), [])


if __name__ == "__main__":
    unittest.main()
