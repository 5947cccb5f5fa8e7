import inspect
import unittest

from buildhall import jobs
from buildhall.errors import BadLine, BadName, BadNeeds, BadNumber
from buildhall.jobs import Job, job_line, job_of
from tests.helper import NO_NAMES, NO_TEXTS, NO_WHOLES, refused

BOUNDS = {"rank": (0, 99), "span": (1, 1000), "tries": (1, 20), "wait": (0, 1000), "grow": (1, 4)}
UNTOLD = {"rank": 0, "span": 1, "tries": 1, "wait": 0, "grow": 1}
EIGHT = ["a", "b", "c", "d", "e", "f", "g", "h"]
BAD_NEEDS = (
    True, False, 0, 1, -1, 1.0, "", "walls", "a", {}, {"walls": 1}, {"walls"}, b"", object(), list, len,
    EIGHT + ["i"], tuple(EIGHT + ["i"]), ["walls"] * 2, ("walls", "walls"), ["a", "b", "c", "a"], ["a", "b", "b"],
    ["roof"], ("roof",), ["walls", "roof"], EIGHT[:7] + ["roof"],
)


def told(job):
    return (job.name, job.needs, job.rank, job.span, job.tries, job.wait, job.grow)


def alike(test, job, other):
    test.assertIs(type(job), Job)
    test.assertEqual(told(job), told(other))


class Interface(unittest.TestCase):
    def test_arguments(self):
        self.assertEqual(
            str(inspect.signature(Job)), "(name, needs=None, rank=0, span=1, tries=1, wait=0, grow=1)"
        )
        self.assertEqual(list(inspect.signature(jobs.job_line).parameters), ["job"])
        self.assertEqual(list(inspect.signature(jobs.job_of).parameters), ["line"])

    def test_in_order_and_by_name(self):
        self.assertEqual(told(Job("roof", ["walls"], 9, 8, 7, 6, 2)), ("roof", ["walls"], 9, 8, 7, 6, 2))
        named = Job(grow=2, wait=6, tries=7, span=8, rank=9, needs=["walls"], name="roof")
        self.assertEqual(told(named), ("roof", ["walls"], 9, 8, 7, 6, 2))


class Point4Jobs(unittest.TestCase):
    def test_what_stands_untold(self):
        self.assertEqual(told(Job("roof")), ("roof", [], 0, 1, 1, 0, 1))

    def test_names_at_their_bounds(self):
        for name in ("a", "z", "ab", "a" * 11, "abcdefghijkl", "z" * 12):
            self.assertEqual(Job(name).name, name)

    def test_numbers_within_their_bounds(self):
        for part, (least, most) in BOUNDS.items():
            for number in (least, least + 1, most - 1, most):
                job = Job("roof", **{part: number})
                self.assertEqual(getattr(job, part), number)
                rest = {other: getattr(job, other) for other in UNTOLD if other != part}
                self.assertEqual(rest, {other: UNTOLD[other] for other in rest})

    def test_all_at_the_most(self):
        self.assertEqual(told(Job("roof", EIGHT, 99, 1000, 20, 1000, 4)), ("roof", EIGHT, 99, 1000, 20, 1000, 4))

    def test_needs(self):
        for needs in ([], ["walls"], ["walls", "beams"], ["beams", "walls"], EIGHT[:7], EIGHT, EIGHT[::-1]):
            self.assertEqual(Job("roof", needs).needs, needs)
            self.assertEqual(Job("roof", tuple(needs)).needs, needs)
            self.assertIs(type(Job("roof", needs).needs), list)
            self.assertIs(type(Job("roof", tuple(needs)).needs), list)

    def test_needs_at_the_bounds_of_names(self):
        self.assertEqual(Job("roof", ["r", "z" * 12, "roofs", "roo"]).needs, ["r", "z" * 12, "roofs", "roo"])

    def test_none_stands_for_no_needs(self):
        self.assertEqual(Job("roof", None).needs, [])
        self.assertEqual(Job("roof", needs=None, rank=3).needs, [])


class Point5Refusals(unittest.TestCase):
    def test_names(self):
        for name in NO_NAMES:
            refused(self, BadName, Job, name)

    def test_needs(self):
        for needs in BAD_NEEDS:
            refused(self, BadNeeds, Job, "roof", needs)

    def test_needs_that_are_no_names(self):
        for need in NO_NAMES:
            refused(self, BadNeeds, Job, "roof", [need])
            refused(self, BadNeeds, Job, "roof", (need,))
            refused(self, BadNeeds, Job, "roof", ["walls", need])
            refused(self, BadNeeds, Job, "roof", [need, "walls"])

    def test_numbers_outside_their_bounds(self):
        for part, (least, most) in BOUNDS.items():
            for number in (least - 1, least - 2, -1, -1000, most + 1, most + 2, 10 ** 30, -(10 ** 30), 10 ** 5000):
                refused(self, BadNumber, Job, "roof", **{part: number})

    def test_what_is_no_number(self):
        for part in BOUNDS:
            for thing in NO_WHOLES:
                refused(self, BadNumber, Job, "roof", **{part: thing})

    def test_a_name_goes_ahead_of_needs_and_numbers(self):
        for name in ("", "Roof", None, True, ["roof"], "a" * 13):
            refused(self, BadName, Job, name, 7)
            refused(self, BadName, Job, name, ["walls", "walls"])
            refused(self, BadName, Job, name, [name])
            for part, (least, most) in BOUNDS.items():
                refused(self, BadName, Job, name, None, **{part: most + 1})
                refused(self, BadName, Job, name, 7, **{part: "x"})

    def test_needs_go_ahead_of_numbers(self):
        for needs in BAD_NEEDS:
            for part, (least, most) in BOUNDS.items():
                refused(self, BadNeeds, Job, "roof", needs, **{part: most + 1})
                refused(self, BadNeeds, Job, "roof", needs, **{part: None})

    def test_needs_wrong_in_two_ways(self):
        refused(self, BadNeeds, Job, "roof", ["roof"] * 9)
        refused(self, BadNeeds, Job, "roof", [[], []])
        refused(self, BadNeeds, Job, "roof", [{}, "roof", 7])


class Point6Lines(unittest.TestCase):
    def test_lines(self):
        for job, line in (
            (Job("roof"), "job roof"),
            (Job("roof", ["walls", "beams"], 3, 1, 2), "job roof rank 3 tries 2 needs walls beams"),
            (Job("roof", ["beams", "walls"]), "job roof needs beams walls"),
            (Job("roof", ["walls"]), "job roof needs walls"),
            (Job("roof", []), "job roof"),
            (Job("roof", (), 0, 1, 1, 0, 1), "job roof"),
            (Job("a", EIGHT[1:] + ["i"], 99, 1000, 20, 1000, 4),
             "job a rank 99 span 1000 tries 20 wait 1000 grow 4 needs b c d e f g h i"),
            (Job("needs", ["rank", "job"], 1), "job needs rank 1 needs rank job"),
            (Job("job"), "job job"),
        ):
            self.assertEqual(job_line(job), line)
            self.assertIs(type(job_line(job)), str)

    def test_each_part_by_itself(self):
        for part, (least, most) in BOUNDS.items():
            for number in range(least, min(most, least + 120) + 1):
                line = "job roof" if number == UNTOLD[part] else f"job roof {part} {number}"
                self.assertEqual(job_line(Job("roof", **{part: number})), line)

    def test_all_two_parts_in_their_order(self):
        parts = list(BOUNDS)
        for at, first in enumerate(parts):
            for second in parts[at + 1:]:
                job = Job("roof", **{second: 3, first: 2})
                self.assertEqual(job_line(job), f"job roof {first} 2 {second} 3")

    def test_writing_leaves_the_job(self):
        job = Job("roof", ["walls"], 3, 4, 5, 6, 2)
        first = job_line(job)
        self.assertEqual(told(job), ("roof", ["walls"], 3, 4, 5, 6, 2))
        self.assertEqual(job_line(job), first)


class Point7Read(unittest.TestCase):
    def test_read(self):
        for line, job in (
            ("job roof", Job("roof")),
            ("job roof rank 3 tries 2 needs walls beams", Job("roof", ["walls", "beams"], 3, 1, 2)),
            ("job roof needs beams walls", Job("roof", ["beams", "walls"])),
            ("job roof span 7", Job("roof", span=7)),
            ("job z needs a b c d e f g h", Job("z", EIGHT)),
            ("job z rank 99 span 1000 tries 20 wait 1000 grow 4 needs a", Job("z", ["a"], 99, 1000, 20, 1000, 4)),
            ("job abcdefghijkl needs a", Job("abcdefghijkl", ["a"])),
            ("job a needs abcdefghijkl", Job("a", ["abcdefghijkl"])),
        ):
            alike(self, job_of(line), job)

    def test_told_though_untold_would_do(self):
        for part, number in UNTOLD.items():
            alike(self, job_of(f"job roof {part} {number}"), Job("roof"))
            alike(self, job_of(f"job roof {part} {number} needs walls"), Job("roof", ["walls"]))
        line = "job roof rank 0 span 1 tries 1 wait 0 grow 1"
        alike(self, job_of(line), Job("roof"))
        alike(self, job_of(line + " needs walls"), Job("roof", ["walls"]))
        alike(self, job_of("job roof rank 0 span 5 wait 0"), Job("roof", span=5))

    def test_words_of_a_line_as_names(self):
        for word in ["job", "needs"] + list(BOUNDS):
            alike(self, job_of(f"job {word}"), Job(word))
            alike(self, job_of(f"job {word} rank 3 needs walls"), Job(word, ["walls"], 3))
            alike(self, job_of(f"job roof needs {word}"), Job("roof", [word]))
        alike(self, job_of("job rank rank 3"), Job("rank", rank=3))
        alike(self, job_of("job roof needs needs"), Job("roof", ["needs"]))
        alike(self, job_of("job roof needs walls rank"), Job("roof", ["walls", "rank"]))

    def test_bounds(self):
        for part, (least, most) in BOUNDS.items():
            for number in (least, most):
                alike(self, job_of(f"job roof {part} {number}"), Job("roof", **{part: number}))
            self.bad(f"job roof {part} {most + 1}")
            self.bad(f"job roof {part} {most + 1} needs walls")
            self.bad(f"job roof {part} {least - 1}")

    def test_what_is_written_is_read(self):
        for needs in ([], ["walls"], EIGHT, EIGHT[::-1], ["needs", "rank"]):
            for rank in (0, 1, 99):
                for span in (1, 2, 1000):
                    for tries in (1, 2, 20):
                        for wait in (0, 1, 1000):
                            for grow in (1, 2, 4):
                                job = Job("roof", needs, rank, span, tries, wait, grow)
                                alike(self, job_of(job_line(job)), job)

    def bad(self, line):
        error = refused(self, BadLine, job_of, line)
        self.assertEqual(error.place, 0)
        self.assertIs(type(error.place), int)

    def test_other_lines(self):
        for line in (
            "", " ", "job", "job ", "roof", "roof job", "Job roof", "jobs roof", "jo roof", "needs roof",
            "job roof walls", "job roof 3", "job roof rank", "job roof rank x", "job roof rank needs walls",
            "job roof ranks 3", "job roof Rank 3", "job roof rank 3 4", "job roof rank 3 walls", "job roof job",
            "job roof job walls", "job rank 3", "job roof rank 3 span", "job roof grow", "job roof 3 rank",
            "job roof need walls", "job roof rank=3", "job roof; job walls", "job roof name walls",
        ):
            self.bad(line)

    def test_blanks(self):
        for line in (
            " job roof", "job roof ", "job  roof", "job roof  rank 3", "job roof rank  3", "job roof rank 3 ",
            "job roof needs ", "job roof needs  walls", "job roof needs walls ", "job roof needs walls  beams",
        ):
            self.bad(line)

    def test_tabs_and_line_feeds(self):
        for line in (
            "job\troof", "job\nroof", "job roof\n", "\njob roof", "job roof\trank 3", "job roof rank\t3",
            "job roof rank 3\n", "job roof rank \t3", "job roof needs\twalls", "job roof needs walls\n",
            "job roof needs walls\tbeams", "job \t", "job roof \n", "job roof needs \t",
        ):
            self.bad(line)

    def test_parts_twice(self):
        for part in BOUNDS:
            self.bad(f"job roof {part} 2 {part} 2")
            self.bad(f"job roof {part} 2 {part} 3")
            self.bad(f"job roof {part} {UNTOLD[part]} {part} {UNTOLD[part]}")
            self.bad(f"job roof {part} 2 {part} 2 needs walls")

    def test_needs_twice(self):
        self.bad("job roof needs walls needs walls")
        self.bad("job roof needs needs needs")
        alike(self, job_of("job roof needs walls needs beams"), Job("roof", ["walls", "needs", "beams"]))

    def test_parts_in_another_order(self):
        parts = list(BOUNDS)
        for at, first in enumerate(parts):
            for second in parts[at + 1:]:
                alike(self, job_of(f"job roof {first} 2 {second} 3"), Job("roof", **{first: 2, second: 3}))
                self.bad(f"job roof {second} 3 {first} 2")
                self.bad(f"job roof {second} {UNTOLD[second]} {first} {UNTOLD[first]}")
            self.bad(f"job roof needs walls {first} 2")

    def test_needs_without_a_name(self):
        self.bad("job roof needs")
        self.bad("job roof rank 3 needs")
        self.bad("job needs needs")

    def test_numbers_not_written_so(self):
        for word in ("", "00", "01", "02", "+2", "-2", "2.0", "2 ", "two", "0x2", "2_0", "2,", "10000000000", "-0"):
            for part in BOUNDS:
                self.bad(f"job roof {part} {word}")
        for word in ("9999999999", "1000100000", "00000000002", "9" * 4000):
            for part in BOUNDS:
                self.bad(f"job roof {part} {word}")

    def test_what_a_job_refuses(self):
        for line in (
            "job Roof", "job a1", "job 7", "job abcdefghijklm", "job -", "job roof needs Walls", "job roof needs 7",
            "job roof needs abcdefghijklm", "job roof needs roof", "job roof needs walls roof", "job needs needs needs",
            "job roof needs walls walls", "job z needs a b c d e f g h i", "job roof rank 100", "job roof span 0",
            "job roof span 1001", "job roof tries 0", "job roof tries 21", "job roof wait 1001", "job roof grow 0",
            "job roof grow 5", "job Roof rank 100 needs Roof",
        ):
            self.bad(line)

    def test_what_is_no_text(self):
        for thing in NO_TEXTS + (["job", "roof"], ("job", "roof"), ["job roof"], b"job roof", {"job": "roof"}):
            self.bad(thing)
        self.bad(Job("roof"))


class Point14HandedInAndTold(unittest.TestCase):
    def test_needs_stay_and_may_be_changed(self):
        needs = ["walls", "beams"]
        job = Job("roof", needs)
        self.assertEqual(needs, ["walls", "beams"])
        self.assertIsNot(job.needs, needs)
        needs.append("roof")
        needs[0] = "x"
        self.assertEqual(job.needs, ["walls", "beams"])
        self.assertEqual(job_line(job), "job roof needs walls beams")

    def test_a_jobs_needs_are_its_own(self):
        needs = ["walls"]
        first = Job("roof", needs)
        second = Job("roof", needs)
        first.needs.append("beams")
        self.assertEqual(needs, ["walls"])
        self.assertEqual(second.needs, ["walls"])

    def test_jobs_without_needs_share_no_list(self):
        for make in (lambda: Job("roof"), lambda: Job("roof", ()), lambda: job_of("job roof")):
            make().needs.append("walls")
            self.assertEqual(make().needs, [])

    def test_jobs_that_are_read_are_the_askers_own(self):
        first = job_of("job roof needs walls")
        first.needs.append("beams")
        self.assertEqual(job_of("job roof needs walls").needs, ["walls"])

    def test_refused_needs_stay_and_are_taken_when_made_good(self):
        needs = ["walls", "walls"]
        refused(self, BadNeeds, Job, "roof", needs)
        self.assertEqual(needs, ["walls", "walls"])
        needs[1] = "beams"
        self.assertEqual(Job("roof", needs).needs, ["walls", "beams"])

    def test_what_is_refused_once_is_taken_when_made_good(self):
        refused(self, BadName, Job, "Roof")
        refused(self, BadNumber, Job, "roof", None, 100)
        refused(self, BadLine, job_of, "job roof rank 100")
        self.assertEqual(told(Job("roof", None, 99)), ("roof", [], 99, 1, 1, 0, 1))
        self.assertEqual(job_of("job roof rank 99").rank, 99)


if __name__ == "__main__":
    unittest.main()
