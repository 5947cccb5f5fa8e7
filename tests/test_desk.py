import inspect
import unittest

from buildhall.desk import Desk
from buildhall.entries import entry_line, entry_of
from buildhall.errors import HallError
from buildhall.halls import Hall
from buildhall.jobs import job_line
from buildhall.plans import Plan, plan_of
from buildhall.reasons import why_not
from buildhall.replays import replay
from buildhall.reports import report
from tests.helper import NO_TEXTS, Draw, drawn_jobs, name_at, refused
from tests.model import Model, drawn_deed

LINES = ["job roof needs walls beams", "job walls tries 3 wait 2", "job beams rank 1", "job door needs roof"]
# What each refusal is answered by; the others can't come up at a desk.
WORDS = {
    "BadLine": "bad line", "BadName": "bad name", "BadPlan": "bad plan", "BadTerm": "bad term", "BadTurn": "bad turn",
    "Busy": "busy", "Gone": "gone", "Ring": "ring",
}
WANT_A_HALL = (
    "ask ann", "renew 0", "done 0", "fail 0 slip", "again ann", "pass 1", "pass", "state roof", "why roof", "book", "book 0",
    "report", "ask Ann", "state x", "pass 9999999999",
)


def desk_by(*lines):
    desk = Desk()
    for line in lines:
        desk.say(line)
    return desk


def opened(*lines, term=None):
    return desk_by(*(lines or LINES), "open" if term is None else f"open {term}")


class Interface(unittest.TestCase):
    def test_arguments(self):
        self.assertEqual(list(inspect.signature(Desk).parameters), [])
        self.assertEqual(list(inspect.signature(Desk.say).parameters), ["self", "line"])

    def test_texts(self):
        for line in LINES + ["open", "x", "ask ann", "pass", "report", None]:
            self.assertIs(type(Desk().say(line)), str)


class Point73Jobs(unittest.TestCase):
    def test_kept_and_changed(self):
        desk = Desk()
        self.assertEqual(desk.say("job a"), "kept")
        self.assertEqual(desk.say("job b needs a"), "kept")
        self.assertEqual(desk.say("job a rank 3"), "changed")
        self.assertEqual(desk.say("job a rank 3"), "changed")
        self.assertEqual(desk.say("job c"), "kept")

    def test_a_changed_job_takes_the_place(self):
        desk = desk_by("job a", "job b", "job c", "job b span 2 needs c", "open")
        self.assertEqual(desk.say("report"), "a ready for a; c ready for c; b blocked for c; open 0")
        self.assertEqual(desk.say("state b"), "blocked 1")
        self.assertEqual(desk.say("ask ann"), "lease 0 0 ann 10")
        self.assertEqual(desk.say("ask bob"), "lease 1 2 bob 10")

    def test_what_is_no_job(self):
        desk = desk_by("job a")
        for line in (
            "job", "job A", "job a1", "job a rank 100", "job a needs a", "job a needs", "job a x", "job a span 0",
            "job a tries 2 rank 1", "job abcdefghijklm", "job a needs b b", "job b\n", "job\ta job", "job 7",
        ):
            due = "refused: bad line" if line.split(" ")[0] == "job" else "no line"
            self.assertEqual(desk.say(line), due)
        self.assertEqual(desk.say("job a"), "changed")
        self.assertEqual(desk.say("open"), "open")
        self.assertEqual(desk.say("state a"), "ready 0")
        self.assertEqual(desk.say("state b"), "refused: no job b")

    def test_words_that_are_none(self):
        desk = Desk()
        for line in ("", " ", "job  a", " job a", "job a ", "jobs a", "Job a", "a job", "\tjob a"):
            self.assertEqual(desk.say(line), "no line")
        self.assertEqual(desk.say("open"), "refused: bad plan")

    def test_open(self):
        desk = desk_by("job a")
        self.assertEqual(desk.say("open"), "open")
        self.assertEqual(desk.say("ask ann"), "lease 0 0 ann 10")
        for term in (2, 7, 1000):
            desk = desk_by("job a")
            self.assertEqual(desk.say(f"open {term}"), "open")
            self.assertEqual(desk.say("ask ann"), f"lease 0 0 ann {term}")

    def test_open_that_is_refused(self):
        for lines, answer in (
            ([], "bad plan"), (["job a needs b"], "no job b"), (["job a needs b", "job b needs a"], "ring"),
            (["job a", "job b needs a x", "job c needs y"], "no job x"),
            ([f"job {name_at(at)}" for at in range(41)], "bad plan"),
        ):
            for more in ("", " 5", " 1", " 1001", " 0", " 9999999999"):
                desk = desk_by(*lines)
                self.assertEqual(desk.say("open" + more), "refused: " + answer)
                self.assertEqual(desk.say("book"), "no line")
        for term in ("0", "1", "1001", "1002", "1000100000", "9999999999"):
            desk = desk_by("job a")
            self.assertEqual(desk.say("open " + term), "refused: bad term")
            self.assertEqual(desk.say("book"), "no line")
            self.assertEqual(desk.say("open 5"), "open")

    def test_forty_jobs(self):
        desk = desk_by(*[f"job {name_at(at)}" for at in range(40)])
        self.assertEqual(desk.say("open"), "open")

    def test_refused_and_put_right(self):
        desk = desk_by("job a needs b", "job b needs a")
        self.assertEqual(desk.say("open"), "refused: ring")
        self.assertEqual(desk.say("job b needs c"), "changed")
        self.assertEqual(desk.say("open"), "refused: no job c")
        self.assertEqual(desk.say("job c"), "kept")
        self.assertEqual(desk.say("open 1"), "refused: bad term")
        self.assertEqual(desk.say("job c span 2"), "changed")
        self.assertEqual(desk.say("open"), "open")
        self.assertEqual(desk.say("report"), "c ready for c; b blocked for c; a blocked for c; open 0")

    def test_no_term(self):
        for line in (
            "open x", "open 05", "open -1", "open +5", "open 5 5", "open 10000000000", "open ", " open", "opens", "Open",
            "open 5.", "open\t5", "open 5\n", "open  5",
        ):
            desk = desk_by("job a")
            self.assertEqual(desk.say(line), "no line")
            self.assertEqual(Desk().say(line), "no line")


class Point74Hall(unittest.TestCase):
    def test_deeds(self):
        desk = opened(term=6)
        for line, answer in (
            ("ask ann", "lease 0 2 ann 6"), ("ask bob", "lease 1 1 bob 6"), ("ask cy", "nothing"), ("pass", "turn 1"),
            ("pass 0", "nothing"), ("renew 0", "renew 0 7"), ("done 0", "done 0"), ("again cy", "nothing"),
            ("fail 1 rain", "fail 1 rain; rest 1 3"), ("pass 3", "turn 3; ready 1; turn 4"), ("ask ann", "lease 2 1 ann 10"),
            ("again ann", "fail 2 fell; rest 1 6"), ("pass 2", "turn 6; ready 1"), ("ask ann", "lease 3 1 ann 12"),
            ("pass 6", "turn 12; out 3; break 1; cut 0 1; cut 3 0"), ("pass", "turn 13"), ("ask ann", "nothing"),
        ):
            self.assertEqual(desk.say(line), answer)
        self.assertEqual(desk.say("book"), "22")

    def test_done_frees(self):
        desk = opened("job a", "job b needs a", "job c needs a")
        desk.say("ask ann")
        self.assertEqual(desk.say("done 0"), "done 0; ready 1; ready 2")

    def test_states(self):
        desk = opened("job a tries 3 wait 5", "job b needs a", "job c", "job d needs c")
        self.assertEqual(desk.say("state a"), "ready 0")
        self.assertEqual(desk.say("state b"), "blocked 1")
        desk.say("ask ann")
        self.assertEqual(desk.say("state a"), "leased 0 0")
        desk.say("fail 0 slip")
        self.assertEqual(desk.say("state a"), "resting 1 5")
        desk.say("ask ann")
        desk.say("fail 1 rain")
        self.assertEqual(desk.say("state c"), "broken 1 rain")
        self.assertEqual(desk.say("state d"), "cut 2")
        desk.say("pass 5")
        desk.say("ask ann")
        desk.say("pass 2")
        desk.say("done 2")
        self.assertEqual(desk.say("state a"), "done 1 2 7")

    def test_why(self):
        desk = opened()
        self.assertEqual(desk.say("why door"), "door blocked 1; roof blocked 2; walls ready 0")
        self.assertEqual(desk.say("why beams"), "beams ready 0")
        desk.say("ask ann")
        desk.say("fail 0 rain")
        self.assertEqual(desk.say("why door"), "door cut 0; roof cut 2; beams broken 1 rain")

    def test_book(self):
        desk = opened()
        self.assertEqual((desk.say("book"), desk.say("book 0")), ("0", "none"))
        desk.say("ask ann")
        desk.say("pass 3")
        self.assertEqual(desk.say("book"), "2")
        self.assertEqual([desk.say(f"book {at}") for at in range(4)], ["lease 0 2 ann 10", "turn 3", "none", "none"])
        self.assertEqual(desk.say("book 9999999999"), "none")

    def test_report(self):
        desk = opened()
        self.assertEqual(
            desk.say("report"),
            "walls ready for walls; beams ready for beams; roof blocked for walls; door blocked for walls; open 0",
        )

    def test_a_job_at_the_desk_named_like_a_word(self):
        desk = opened("job job", "job open needs job", "job none needs open")
        self.assertEqual(desk.say("state open"), "blocked 1")
        self.assertEqual(desk.say("why none"), "none blocked 1; open blocked 1; job ready 0")


class Point75Refusals(unittest.TestCase):
    def unchanged(self, desk, line, answer):
        before = [desk.say(ask) for ask in ("book", "report", "state roof", "why door")]
        self.assertEqual(desk.say(line), answer, line)
        self.assertEqual([desk.say(ask) for ask in ("book", "report", "state roof", "why door")], before)

    def test_refusals_in_their_words(self):
        desk = opened()
        desk.say("ask ann")
        for line, answer in (
            ("ask ann", "busy"), ("ask Ann", "bad name"), ("ask 7", "bad name"), ("ask abcdefghijklm", "bad name"),
            ("again Ann", "bad name"), ("again a_b", "bad name"), ("renew 1", "gone"), ("done 1", "gone"),
            ("done 9999999999", "gone"), ("fail 1 slip", "gone"), ("fail 1 Slip", "gone"), ("fail 0 Slip", "bad name"),
            ("fail 0 7", "bad name"), ("pass 1000000001", "bad turn"), ("pass 9999999999", "bad turn"),
            ("state x", "no job x"), ("state Roof", "no job Roof"), ("state 7", "no job 7"), ("why x", "no job x"),
            ("why roofs!", "no job roofs!"), ("state roof\n", "no job roof\n"), ("why -", "no job -"),
        ):
            self.unchanged(desk, line, "refused: " + answer)

    def test_as_the_clock_stands_at_the_most(self):
        desk = opened()
        self.assertEqual(desk.say("pass 1000000000"), "turn 1000000000")
        self.assertEqual(desk.say("pass"), "refused: bad turn")
        self.assertEqual(desk.say("pass 1"), "refused: bad turn")
        self.assertEqual(desk.say("pass 0"), "nothing")

    def test_without_a_hall(self):
        for lines in ([], LINES):
            for line in WANT_A_HALL:
                desk = desk_by(*lines)
                self.assertEqual(desk.say(line), "no line")

    def test_with_a_hall(self):
        desk = opened()
        for line in ("job a", "job roof", "job", "job A", "job roof needs roof", "open", "open 5", "open 1", "open x"):
            self.unchanged(desk, line, "no line")

    def test_words_more_and_fewer(self):
        desk = opened()
        desk.say("ask ann")
        for line in (
            "ask", "renew", "done", "fail", "fail 0", "again", "state", "why", "ask ann bob", "renew 0 0", "done 0 0",
            "fail 0 slip slip", "again ann ann", "pass 1 1", "state roof roof", "why roof roof", "book 0 0", "report 0",
            "report roof", "books", "passes", "Ask ann", "ASK ann", "states", "ask  ann", " ask ann", "ask ann ", "report ",
            "ask\tann", "pass\n", "hall", "turn 1", "lease 0 0 ann 10", "end", "x", "", " ", "0", "nothing", "kept",
        ):
            self.unchanged(desk, line, "no line")

    def test_numbers_that_are_none(self):
        desk = opened()
        desk.say("ask ann")
        for word in ("x", "00", "01", "-1", "+1", "1.0", "10000000000", "ann", "0x1", "1_0", "0\n", "\t0", "None"):
            for line in (f"renew {word}", f"done {word}", f"fail {word} slip", f"fail {word} Slip", f"pass {word}", f"book {word}"):
                self.unchanged(desk, line, "no line")

    def test_what_is_no_text(self):
        for desk in (Desk(), desk_by(*LINES), opened()):
            for thing in NO_TEXTS + (["ask", "ann"], ["ask ann"], ("job", "a"), b"job a", {"job": "a"}):
                self.assertEqual(desk.say(thing), "no line")
        desk = opened()
        for thing in NO_TEXTS:
            self.unchanged(desk, thing, "no line")


class DrawnDesks(unittest.TestCase):
    def said(self, deed):
        words = {"pass_on": "pass"}.get(deed[0], deed[0])
        return " ".join([words] + [str(part) for part in deed[1:]])

    def test_against_the_model_and_the_hall(self):
        for seed in range(40):
            draw = Draw(seed + 740)
            jobs = drawn_jobs(draw, draw.among(1, 12), 3, rank=2, span=3, tries=3, wait=4, grow=2)
            term = draw.among(2, 8)
            desk = desk_by(*[job_line(job) for job in jobs], f"open {term}")
            model = Model(jobs, term)
            hall = Hall(Plan(jobs), term)
            for step in range(60):
                deed = drawn_deed(draw, model, ["ann", "bob", "cy"])
                line = self.said(deed)
                if " ".join(line.split()) != line or any(type(part) is not int and type(part) is not str for part in deed):
                    continue
                answer = desk.say(line)
                if any(word.startswith("-") or word == "True" for word in line.split(" ")) or len(line.split(" ")) > 3:
                    self.assertEqual(answer, "no line")
                    continue
                if len(line.split(" ")) == 3 and deed[0] != "fail":
                    # A worker of two words makes a line of a word more.
                    self.assertEqual(answer, "no line")
                    continue
                due = model.do(*deed)
                if type(due) is str:
                    self.assertEqual(answer, "refused: " + WORDS[due])
                    self.assertIsInstance(refused(self, self.kind(due), getattr(hall, deed[0]), *deed[1:]), HallError)
                else:
                    self.assertEqual(answer, "; ".join([entry_line(entry) for entry in due]) or "nothing")
                    self.assertEqual(getattr(hall, deed[0])(*deed[1:]), due)
                self.asked(draw, desk, hall, jobs)
            self.put_up_again(desk, hall, jobs, term)

    def kind(self, word):
        from buildhall import errors
        return getattr(errors, word)

    def asked(self, draw, desk, hall, jobs):
        name = draw.pick(jobs).name
        self.assertEqual(desk.say(f"state {name}"), " ".join([str(part) for part in hall.state(name)]))
        pairs = [" ".join([pair[0]] + [str(part) for part in pair[1]]) for pair in why_not(hall, name)]
        self.assertEqual(desk.say(f"why {name}"), "; ".join(pairs))
        self.assertEqual(desk.say("report"), "; ".join(report(hall)))
        self.assertEqual(desk.say("book"), str(len(hall.entries())))

    def put_up_again(self, desk, hall, jobs, term):
        entries = [entry_of(desk.say(f"book {at}")) for at in range(int(desk.say("book")))]
        self.assertEqual(entries, hall.entries())
        again = replay(plan_of([job_line(job) for job in jobs]), term, entries)
        self.assertEqual("; ".join(report(again)), desk.say("report"))

    def test_two_desks_keep_apart(self):
        first = opened()
        second = Desk()
        self.assertEqual(second.say("book"), "no line")
        self.assertEqual(second.say("job roof"), "kept")
        self.assertEqual(first.say("state roof"), "blocked 2")


if __name__ == "__main__":
    unittest.main()
