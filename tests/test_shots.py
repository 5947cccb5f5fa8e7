import inspect
import unittest

from buildhall import shots
from buildhall.errors import BadShot, HallError
from buildhall.halls import Hall
from buildhall.jobs import Job
from buildhall.plans import Plan, plan_of
from buildhall.shots import hall_of, shot
from tests.helper import NO_TEXTS, Draw, refused
from tests.model import all_told, drawn_deed, drawn_hall, same, twin, wrong_line

LINES = [
    "job a", "job b tries 2", "job c needs a b", "job d needs c", "job e rank 4 tries 3", "job f tries 3 wait 50",
    "job g tries 2", "job h needs e g", "job i tries 2", "job j needs a g", "job k",
]
SHOT = [
    "hall 10 20 9",
    "job 0 done 0 0 7",
    "job 1 broken 2 slip",
    "job 2 cut 1",
    "job 3 cut 2",
    "job 4 ready 1 15",
    "job 5 resting 1 30",
    "job 6 leased 0 5",
    "job 7 blocked 2",
    "job 8 leased 1 7",
    "job 9 blocked 1",
    "job 10 ready 0 0",
    "lease 5 6 ann 12 25",
    "lease 7 8 bob 20 30",
    "end 14",
]
PLAN = plan_of(LINES)


def bent(changes):
    lines = list(SHOT)
    for place, line in changes.items():
        lines[place] = line
    return lines


class Interface(unittest.TestCase):
    def test_arguments(self):
        self.assertEqual(list(inspect.signature(shots.shot).parameters), ["hall"])
        self.assertEqual(list(inspect.signature(shots.hall_of).parameters), ["plan", "lines"])


class Point50Shots(unittest.TestCase):
    def test_at_first(self):
        hall = Hall(plan_of(["job a needs b", "job b"]), 7)
        self.assertEqual(shot(hall), ["hall 7 0 0", "job 0 blocked 1", "job 1 ready 0 0", "end 3"])

    def test_each_kind_of_line(self):
        hall = Hall(plan_of(["job a", "job b tries 2", "job c needs b", "job d tries 2 wait 9", "job e tries 2", "job f"]), 5)
        for worker in ("ann", "bob", "cy", "di"):
            hall.ask(worker)
        hall.pass_on(2)
        hall.done(0)
        hall.fail(1, "slip")
        hall.fail(2, "rain")
        hall.ask("ann")
        hall.ask("bob")
        hall.fail(5, "fire")
        self.assertEqual(shot(hall), [
            "hall 5 2 6", "job 0 done 0 0 2", "job 1 broken 2 fire", "job 2 cut 1", "job 3 resting 1 11",
            "job 4 leased 0 3", "job 5 leased 0 4", "lease 3 4 di 0 5", "lease 4 5 ann 2 7", "end 9",
        ])
        self.assertTrue(all(type(line) is str for line in shot(hall)))

    def test_read(self):
        hall = hall_of(PLAN, SHOT)
        self.assertIs(type(hall), Hall)
        self.assertIs(hall.plan, PLAN)
        self.assertEqual((hall.turn, hall.leases.term, hall.leases.given, hall.entries()), (20, 10, 9, []))
        self.assertEqual(hall.states(), [
            ("done", 0, 0, 7), ("broken", 2, "slip"), ("cut", 1), ("cut", 2), ("ready", 1), ("resting", 1, 30),
            ("leased", 0, 5), ("blocked", 2), ("leased", 1, 7), ("blocked", 1), ("ready", 0),
        ])
        self.assertEqual(hall.open_leases(), [(5, 6, "ann", 12, 25), (7, 8, "bob", 20, 30)])
        self.assertEqual(hall.alarms.rows(), [(25, 0, 5), (30, 0, 7), (30, 1, 5)])
        self.assertEqual(hall.readies.rows(), [(4, 4, 15), (10, 0, 0)])
        self.assertEqual(shot(hall), SHOT)
        self.assertEqual(sorted(vars(hall)), ["alarms", "book", "leases", "plan", "readies", "stands", "turn"])

    def test_it_goes_on(self):
        hall = hall_of(PLAN, SHOT)
        self.assertEqual(hall.ask("cy"), [("lease", 9, 4, "cy", 30)])
        self.assertEqual(hall.renew(5), [("renew", 5, 30)])
        self.assertEqual(hall.done(5), [("done", 5), ("ready", 9)])
        self.assertEqual(hall.fail(9, "slip"), [("fail", 9, "slip"), ("ready", 4)])
        self.assertEqual(hall.pass_on(10), [("turn", 30), ("out", 7), ("break", 8), ("ready", 5)])
        self.assertEqual(len(hall.entries()), 10)

    def test_at_the_bounds(self):
        plan = plan_of(["job a tries 2 wait 1000"])
        for lines in (
            ["hall 2 0 0", "job 0 ready 0 0", "end 2"],
            ["hall 1000 1000000000 1000100000", "job 0 ready 1 1000000000", "end 2"],
            ["hall 1000 1000000000 1000100000", "job 0 resting 1 1000100000", "end 2"],
            ["hall 1000 1000000000 1000100000", "job 0 done 1 1000099999 1000000000", "end 2"],
            ["hall 1000 1000000000 1", "job 0 leased 1 0", "lease 0 0 abcdefghijkl 0 1000001000", "end 3"],
            ["hall 1000 1000000000 1", "job 0 leased 1 0", "lease 0 0 z 1000000000 1000001000", "end 3"],
            ["hall 2 1 1", "job 0 leased 0 0", "lease 0 0 z 0 2", "end 3"],
            ["hall 2 1 1", "job 0 leased 0 0", "lease 0 0 z 0 3", "end 3"],
        ):
            self.assertEqual(shot(hall_of(plan, lines)), lines)

    def test_lease_numbers_at_the_bound_go_on(self):
        hall = hall_of(plan_of(["job a tries 2"]), ["hall 5 0 1000099999", "job 0 ready 0 0", "end 2"])
        self.assertEqual(hall.ask("ann"), [("lease", 1000099999, 0, "ann", 5)])
        self.assertEqual(shot(hall)[0], "hall 5 0 1000100000")

    def test_behind_drawn_deeds_alike_and_going_on_alike(self):
        for seed in range(60):
            hall, model = drawn_hall(seed, 1 + seed % 14, 3 * seed, rank=2, tries=4, wait=4, grow=3)
            lines = shot(hall)
            self.assertEqual(lines, model.shot())
            again = hall_of(hall.plan, lines)
            self.assertEqual(shot(again), lines)
            self.assertEqual(again.entries(), [])
            model.book = []
            same(self, again, model)
            draw = Draw(seed + 500)
            many = len(hall.entries())
            for step in range(60):
                deed = drawn_deed(draw, model, ["ann", "bob", "cy", "di"])
                due = model.do(*deed)
                told = []
                for one in (hall, again):
                    try:
                        told.append(getattr(one, deed[0])(*deed[1:]))
                    except HallError as error:
                        told.append(type(error).__name__)
                self.assertEqual(told, [due, due])
            self.assertEqual(shot(again), shot(hall))
            self.assertEqual(hall.entries()[many:], again.entries())

    def test_as_the_clock_stands_far_on(self):
        hall = Hall(plan_of(["job a tries 3 wait 1000 grow 4", "job b"]), 1000)
        hall.pass_on(1000000000)
        hall.ask("ann")
        hall.ask("bob")
        hall.fail(0, "slip")
        self.assertEqual(shot(hall_of(hall.plan, shot(hall))), shot(hall))


class Point51Form(unittest.TestCase):
    def bad(self, place, lines, plan=PLAN):
        error = refused(self, BadShot, hall_of, plan, lines)
        self.assertEqual(error.place, place, lines)
        self.assertIs(type(error.place), int)
        self.assertEqual(wrong_line([plan.job_at(at) for at in range(plan.many())], lines), place)

    def test_what_is_no_list(self):
        for thing in NO_TEXTS[:9] + ("", "hall 10 20 9", tuple(SHOT), {}, {0: "hall 10 20 9"}, set(SHOT), object()):
            self.bad(0, thing)

    def test_no_lines_and_no_end(self):
        self.bad(0, [])
        for many in range(len(SHOT)):
            self.bad(many, SHOT[:many])

    def test_what_is_no_text(self):
        for place in range(len(SHOT)):
            for thing in NO_TEXTS + (SHOT[place].split(" "), [SHOT[place]], (SHOT[place],), SHOT[place].encode()):
                self.bad(place, bent({place: thing}))

    def test_blanks(self):
        for place, line in enumerate(SHOT):
            for other in ("", " ", line + " ", " " + line, line.replace(" ", "  ", 1), line.replace(" ", "\t", 1), line + "\n"):
                self.bad(place, bent({place: other}))

    def test_words_more_and_fewer(self):
        for place, line in enumerate(SHOT):
            words = line.split(" ")
            for more in ("0", "7", "a", "end"):
                self.bad(place, bent({place: line + " " + more}))
            for at in range(len(words)):
                self.bad(place, bent({place: " ".join(words[:at] + words[at + 1:])}))

    def test_the_head(self):
        for line in (
            "hall 1 20 9", "hall 0 20 9", "hall 1001 20 9", "hall 10 1000000001 9", "hall 10 20 1000100001",
            "hall x 20 9", "hall 10 x 9", "hall 10 20 x", "Hall 10 20 9", "halls 10 20 9", "hall 010 20 9",
            "hall 10 -1 9", "hall 10 20 -1", "hall 10 20 09", "job 0 done 0 0 7", "end 14", "hall 10 20", "10 20 9",
        ):
            self.bad(0, bent({0: line}))

    def test_places(self):
        for place in range(1, 12):
            words = SHOT[place].split(" ")
            for other in (place, place + 1, 99, "x", "-1", "0" + words[1], ""):
                self.bad(place, bent({place: " ".join(["job", str(other)] + words[2:])}))
        lines = list(SHOT)
        lines[2], lines[3] = lines[3], lines[2]
        self.bad(2, lines)
        self.bad(1, SHOT[:1] + SHOT[2:])
        self.bad(2, SHOT[:2] + SHOT[1:])

    def test_numbers_and_names_of_jobs(self):
        for place, line in (
            (8, "job 7 blocked 0"), (8, "job 7 blocked 1000100001"), (8, "job 7 blocked x"), (8, "job 7 blocked 02"),
            (5, "job 4 ready 1000100001 15"), (5, "job 4 ready 1 1000100001"), (5, "job 4 ready x 15"),
            (6, "job 5 resting 1 1000100001"), (6, "job 5 resting 1000100001 30"), (6, "job 5 resting 1 a"),
            (7, "job 6 leased 0 1000100001"), (7, "job 6 leased 1000100001 5"), (7, "job 6 leased 0 -5"),
            (1, "job 0 done 1000100001 0 7"), (1, "job 0 done 0 1000100001 7"), (1, "job 0 done 0 0 1000100001"),
            (2, "job 1 broken 1000100001 slip"), (2, "job 1 broken 2 Slip"), (2, "job 1 broken 2 7"),
            (2, "job 1 broken 2 abcdefghijklm"), (2, "job 1 broken slip 2"), (3, "job 2 cut 1000100001"),
            (3, "job 2 cut b"), (3, "job 2 cut"), (3, "job 2"), (3, "job"), (3, "cut 1"), (3, "lease 5 6 ann 12 25"),
            (3, "end 3"), (3, "job 2 open 1"), (3, "job 2 Cut 1"), (3, "jobs 2 cut 1"), (5, "job 4 ready 1"),
            (7, "job 6 leased 0"), (1, "job 0 done 0 0"), (3, "hall 10 20 9"),
        ):
            self.bad(place, bent({place: line}))

    def test_numbers_of_leases(self):
        for line in (
            "lease 1000100001 6 ann 12 25", "lease 5 1000100001 ann 12 25", "lease 5 6 Ann 12 25", "lease 5 6 7 12 25",
            "lease 5 6 abcdefghijklm 12 25", "lease 5 6 ann 1000100001 25", "lease 5 6 ann 12 1000100001",
            "lease x 6 ann 12 25", "lease 05 6 ann 12 25", "lease 5 6 ann 12", "leases 5 6 ann 12 25", "5 6 ann 12 25",
            "job 11 ready 0 0", "hall 10 20 9", "end 14", "end 13", "end 11",
        ):
            self.bad(12, bent({12: line}))

    def test_the_end(self):
        for line in ("end 13", "end 15", "end 0", "end", "end 14 14", "end 014", "end x", "End 14", "ends 14", "end -14"):
            self.bad(14, bent({14: line}))
        self.bad(13, SHOT[:13] + ["end 14"])
        self.bad(12, SHOT[:12] + ["end 14"])

    def test_behind_the_end(self):
        for more in ("end 15", "end 14", "", "lease 8 8 cy 20 30", "hall 10 20 9", None, 7):
            self.bad(15, SHOT + [more])
            self.bad(15, SHOT + [more, more])
        self.bad(14, SHOT[:13] + ["end 13"] + SHOT[14:])

    def test_the_first_one_goes_ahead(self):
        self.bad(2, bent({2: "x", 5: "y", 14: "z"}))
        self.bad(0, bent({0: "x", 14: "z"}))
        self.bad(14, bent({14: "x"}) + ["y"])

    def test_form_goes_ahead_of_what_does_not_agree(self):
        self.bad(14, bent({1: "job 0 done 0 0 21", 14: "end 13"}))
        self.bad(15, bent({1: "job 0 done 0 0 21"}) + ["x"])
        self.bad(14, bent({1: "job 0 done 0 0 21"})[:14])
        self.bad(12, bent({3: "job 2 cut 0", 12: "lease 5 6 Ann 12 25"}))


class Point52Agree(unittest.TestCase):
    bad = Point51Form.bad

    def test_blocked(self):
        for place, line in (
            (8, "job 7 blocked 1"), (8, "job 7 blocked 3"), (8, "job 7 blocked 1000100000"), (10, "job 9 blocked 2"),
            (3, "job 2 blocked 1"), (3, "job 2 blocked 2"), (4, "job 3 blocked 1"), (1, "job 0 blocked 1"),
            (5, "job 4 blocked 1"),
        ):
            self.bad(place, bent({place: line}))

    def test_blocked_by_broken_and_cut(self):
        plan = plan_of(["job a", "job b needs a", "job c needs b"])
        good = ["hall 5 9 1", "job 0 broken 1 out", "job 1 cut 0", "job 2 cut 1", "end 4"]
        self.assertEqual(shot(hall_of(plan, good)), good)
        self.bad(2, ["hall 5 9 1", "job 0 broken 1 out", "job 1 blocked 1", "job 2 blocked 1", "end 4"], plan)
        self.bad(3, ["hall 5 9 1", "job 0 broken 1 out", "job 1 cut 0", "job 2 blocked 1", "end 4"], plan)

    def test_cut(self):
        for place, line in (
            (3, "job 2 cut 0"), (3, "job 2 cut 2"), (3, "job 2 cut 3"), (3, "job 2 cut 4"), (3, "job 2 cut 11"),
            (3, "job 2 cut 1000100000"), (4, "job 3 cut 1"), (4, "job 3 cut 3"), (8, "job 7 cut 4"), (8, "job 7 cut 6"),
            (1, "job 0 cut 1"), (1, "job 0 cut 0"), (11, "job 10 cut 1"),
        ):
            self.bad(place, bent({place: line}))

    def test_cut_by_either(self):
        plan = plan_of(["job a", "job b", "job c needs a b", "job d needs b c"])
        for last in ("job 3 cut 1", "job 3 cut 2"):
            lines = ["hall 5 9 2", "job 0 broken 1 out", "job 1 broken 1 out", "job 2 cut 1", last, "end 5"]
            self.assertEqual(shot(hall_of(plan, lines)), lines)

    def test_others_with_a_need_that_is_not_done(self):
        for place in (3, 8, 10):
            at = place - 1
            for how in ("ready 0 0", "resting 0 21", "leased 0 1", "done 0 1 20", "broken 1 slip"):
                self.bad(place, bent({place: f"job {at} {how}"}))

    def test_all_needs_done(self):
        plan = plan_of(["job a", "job b needs a"])
        for how in ("ready 0 0", "done 0 1 9", "broken 1 slip", "leased 0 1"):
            lines = ["hall 5 9 2", "job 0 done 0 0 7", f"job 1 {how}"]
            lines += ["lease 1 1 ann 8 13"] if how == "leased 0 1" else []
            lines.append(f"end {len(lines)}")
            self.assertEqual(shot(hall_of(plan, lines)), lines)
            lines[1] = "job 0 ready 0 0"
            self.bad(2, lines, plan)

    def test_fails(self):
        for place, line in (
            (2, "job 1 broken 1 slip"), (2, "job 1 broken 3 slip"), (2, "job 1 broken 0 slip"), (5, "job 4 ready 3 15"),
            (5, "job 4 ready 4 15"), (6, "job 5 resting 3 30"), (7, "job 6 leased 2 5"), (1, "job 0 done 1 0 7"),
            (11, "job 10 ready 1 0"),
        ):
            self.bad(place, bent({place: line}))
        for place, line in ((5, "job 4 ready 2 15"), (6, "job 5 resting 0 30"), (7, "job 6 leased 1 5")):
            self.assertEqual(shot(hall_of(PLAN, bent({place: line}))), bent({place: line}))

    def test_turns(self):
        for place, line in (
            (5, "job 4 ready 1 21"), (5, "job 4 ready 1 1000100000"), (1, "job 0 done 0 0 21"), (6, "job 5 resting 1 20"),
            (6, "job 5 resting 1 19"), (6, "job 5 resting 1 0"),
        ):
            self.bad(place, bent({place: line}))
        for place, line in (
            (5, "job 4 ready 1 20"), (1, "job 0 done 0 0 20"), (6, "job 5 resting 1 21"), (6, "job 5 resting 1 1000100000"),
        ):
            self.assertEqual(shot(hall_of(PLAN, bent({place: line}))), bent({place: line}))

    def test_numbers(self):
        for place, line in (
            (7, "job 6 leased 0 9"), (7, "job 6 leased 0 10"), (1, "job 0 done 0 9 7"), (1, "job 0 done 0 1000100000 7"),
            (7, "job 6 leased 0 0"), (9, "job 8 leased 1 5"), (9, "job 8 leased 1 0"), (9, "job 8 done 1 5 9"),
        ):
            self.bad(place, bent({place: line}))
        self.bad(7, bent({1: "job 0 done 0 5 7"}))
        self.bad(9, bent({7: "job 6 leased 0 7"}))
        good = bent({1: "job 0 done 0 8 7"})
        self.assertEqual(shot(hall_of(PLAN, good)), good)

    def test_leases(self):
        for line in (
            "lease 6 6 ann 12 25", "lease 7 6 ann 12 25", "lease 5 8 ann 12 25", "lease 5 0 ann 12 25",
            "lease 5 11 ann 12 25", "lease 5 1000100000 ann 12 25", "lease 5 5 ann 12 25", "lease 5 6 ann 21 31",
            "lease 5 6 ann 21 30", "lease 5 6 ann 10 20", "lease 5 6 ann 5 20", "lease 5 6 ann 9 19", "lease 5 6 ann 12 21",
            "lease 5 6 ann 16 25", "lease 5 6 ann 12 31", "lease 5 6 ann 12 1000100000",
        ):
            self.bad(12, bent({12: line}))
        for line in (
            "lease 5 6 ann 11 21", "lease 5 6 ann 0 21", "lease 5 6 ann 0 30", "lease 5 6 ann 20 30", "lease 5 6 ann 12 22",
            "lease 5 6 ann 15 25",
        ):
            self.assertEqual(shot(hall_of(PLAN, bent({12: line}))), bent({12: line}))

    def test_the_order_of_leases(self):
        self.bad(13, bent({12: SHOT[13], 13: SHOT[12]}))
        self.bad(13, SHOT[:13] + [SHOT[12], SHOT[13], "end 15"])
        self.bad(13, SHOT[:13] + [SHOT[12], "end 14"])
        self.bad(13, SHOT[:13] + ["lease 5 6 zoe 12 25", SHOT[13], "end 15"])

    def test_the_order_of_three_leases(self):
        plan = plan_of(["job a", "job b", "job c"])
        jobs = ["hall 5 3 9", "job 0 leased 0 2", "job 1 leased 0 4", "job 2 leased 0 6"]
        leases = ["lease 2 0 ann 1 6", "lease 4 1 bob 1 6", "lease 6 2 cy 1 6"]
        good = jobs + leases + ["end 7"]
        self.assertEqual(shot(hall_of(plan, good)), good)
        for order, place in (((0, 2, 1), 6), ((1, 0, 2), 5), ((2, 1, 0), 5), ((1, 2, 0), 6), ((2, 0, 1), 5)):
            self.bad(place, jobs + [leases[at] for at in order] + ["end 7"], plan)

    def test_a_worker_with_a_lease_ahead(self):
        self.bad(13, bent({13: "lease 7 8 ann 20 30"}))

    def test_leased_without_a_lease(self):
        self.bad(7, SHOT[:12] + [SHOT[13], "end 13"])
        self.bad(9, SHOT[:13] + ["end 13"])
        self.bad(7, SHOT[:12] + ["end 12"])

    def test_which_goes_first(self):
        # A job's line ahead of a lease's, that ahead of a job's without a lease.
        self.bad(9, bent({9: "job 8 leased 2 7", 12: "lease 5 6 ann 12 31"}))
        self.bad(5, bent({5: "job 4 ready 3 15", 2: "job 1 broken 2 slip", 9: "job 8 leased 2 7"}))
        self.bad(12, SHOT[:12] + ["lease 7 8 bob 20 31", "end 13"])
        self.bad(11, SHOT[:11] + ["job 10 ready 1 0", "end 12"])

    def test_at_the_line_itself_not_at_its_need(self):
        # The line of place 0 is good by itself; the one that needs it does not agree.
        plan = plan_of(["job a needs b", "job b"])
        self.bad(1, ["hall 5 0 0", "job 0 ready 0 0", "job 1 ready 0 0", "end 3"], plan)
        self.bad(1, ["hall 5 0 1", "job 0 blocked 1", "job 1 done 0 0 0", "end 3"], plan)

    def test_drawn_bends_against_the_model(self):
        draw = Draw(52)
        found = set()
        for seed in range(120):
            hall, model = drawn_hall(seed, 2 + seed % 9, 10 + seed % 45, rank=1, tries=3, wait=3, grow=2)
            jobs = [hall.plan.job_at(place) for place in range(hall.plan.many())]
            lines = shot(hall)
            self.assertIsNone(wrong_line(jobs, lines))
            for bend in range(60):
                other = self.bend(draw, list(lines))
                place = wrong_line(jobs, other)
                if place is None:
                    again = hall_of(hall.plan, other)
                    self.assertEqual(shot(again), other)
                else:
                    error = refused(self, BadShot, hall_of, hall.plan, other)
                    self.assertEqual(error.place, place, other)
                found.add(place is None)
        self.assertEqual(found, {True, False})

    def bend(self, draw, lines):
        for again in range(draw.among(1, 2)):
            place = draw.below(len(lines))
            words = lines[place].split(" ")
            deed = draw.below(8)
            at = draw.below(len(words))
            if deed < 5 and words[at].isdigit():
                words[at] = str(max(0, int(words[at]) + draw.pick([-2, -1, 1, 2, 3, 7])))
            elif deed == 5:
                words[at] = draw.pick(["ready", "leased", "done", "cut", "ann", "bob", "0", "1", "x", "end", "lease"])
            elif deed == 6:
                lines.insert(place, draw.pick(lines))
            elif len(lines) > 1:
                lines.pop(place)
                place = draw.below(len(lines))
                words = lines[place].split(" ")
            lines[place] = " ".join(words)
            if draw.below(3) and lines[-1].startswith("end"):
                lines[-1] = f"end {len(lines) - 1}"
        return lines


class Point14HandedInAndTold(unittest.TestCase):
    def test_lines_stay_and_may_be_emptied(self):
        lines = list(SHOT)
        hall = hall_of(PLAN, lines)
        self.assertEqual(lines, SHOT)
        before = all_told(hall)
        lines.clear()
        self.assertEqual(all_told(hall), before)
        self.assertEqual(shot(hall), SHOT)

    def test_a_shot_stays_as_it_was_told(self):
        hall = hall_of(PLAN, SHOT)
        told = shot(hall)
        shot(hall).clear()
        hall.ask("cy")
        hall.pass_on(30)
        self.assertEqual(told, SHOT)
        told.clear()
        self.assertEqual(len(shot(hall)), 13)

    def test_made_good_in_the_very_list(self):
        lines = bent({5: "job 4 ready 9 15"})
        error = refused(self, BadShot, hall_of, PLAN, lines)
        self.assertEqual((error.place, lines), (5, bent({5: "job 4 ready 9 15"})))
        lines[5] = SHOT[5]
        self.assertEqual(shot(hall_of(PLAN, lines)), SHOT)

    def test_two_halls_of_one_shot_keep_apart(self):
        first = hall_of(PLAN, SHOT)
        second = hall_of(PLAN, SHOT)
        first.ask("cy")
        first.pass_on(50)
        self.assertEqual(shot(second), SHOT)

    def test_a_shot_asks_nothing_of_the_hall(self):
        hall, model = drawn_hall(7, 9, 40, rank=2, tries=4, wait=4)
        before = all_told(hall)
        shot(hall)
        self.assertEqual(all_told(hall), before)
        same(self, hall, twin(model))


class FortyJobs(unittest.TestCase):
    def test_one_and_forty(self):
        for many in (1, 40):
            hall = Hall(Plan([Job("a" * 6 + "bcdefghijklmnopqrstuvwxyz"[at % 25] * (1 + at // 25)) for at in range(many)]))
            self.assertEqual(len(shot(hall)), many + 2)
            self.assertEqual(shot(hall_of(hall.plan, shot(hall))), shot(hall))


if __name__ == "__main__":
    unittest.main()
