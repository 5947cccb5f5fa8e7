"""The desk: it answers each line with a text."""

from buildhall.entries import entry_line
from buildhall.errors import BadLine, BadName, BadPlan, BadTerm, BadTurn, Busy, Gone, HallError, NoJob
from buildhall.forms import parts_line
from buildhall.halls import Hall
from buildhall.jobs import job_of
from buildhall.plans import Plan
from buildhall.reasons import why_not
from buildhall.reports import report
from buildhall.words import number_of, number_text, words_of

NO_LINE = "no line"


class Desk:
    def __init__(self):
        self.jobs = []
        self.hall = None

    def say(self, line):
        words = words_of(line)
        if words is None:
            return NO_LINE
        try:
            return self.plan_ahead(words, line) if self.hall is None else answer(self.hall, words)
        except HallError as error:
            return "refused: " + refusal(error)

    def plan_ahead(self, words, line):
        if words[0] == "job":
            return self.keep(job_of(line))
        if words == ["open"]:
            return self.put_up(Hall(Plan(self.jobs)))
        if words[0] == "open" and len(words) == 2 and number_of(words[1]) is not None:
            return self.put_up(Hall(Plan(self.jobs), number_of(words[1])))
        return NO_LINE

    def keep(self, job):
        names = [other.name for other in self.jobs]
        if job.name in names:
            self.jobs[names.index(job.name)] = job
            return "changed"
        self.jobs.append(job)
        return "kept"

    def put_up(self, hall):
        self.hall = hall
        return "open"


def answer(hall, words):
    if len(words) == 1:
        return answer_bare(hall, words[0])
    if len(words) == 2:
        return answer_word(hall, words[0], words[1])
    if len(words) == 3 and words[0] == "fail" and number_of(words[1]) is not None:
        return entries_text(hall.fail(number_of(words[1]), words[2]))
    return NO_LINE


def answer_bare(hall, word):
    if word == "pass":
        return entries_text(hall.pass_on())
    if word == "book":
        return number_text(len(hall.book))
    if word == "report":
        return "; ".join(report(hall))
    return NO_LINE


def answer_word(hall, word, given):
    if word == "ask":
        return entries_text(hall.ask(given))
    if word == "again":
        return entries_text(hall.again(given))
    if word == "state":
        return parts_line(hall.state(given))
    if word == "why":
        return "; ".join([parts_line((pair[0],) + pair[1]) for pair in why_not(hall, given)])
    number = number_of(given)
    return NO_LINE if number is None else answer_number(hall, word, number)


def answer_number(hall, word, number):
    if word == "renew":
        return entries_text(hall.renew(number))
    if word == "done":
        return entries_text(hall.done(number))
    if word == "pass":
        return entries_text(hall.pass_on(number))
    if word == "book":
        return entry_line(hall.book[number]) if number < len(hall.book) else "none"
    return NO_LINE


def entries_text(wrote):
    return "; ".join([entry_line(entry) for entry in wrote]) if wrote else "nothing"


def refusal(error):
    if isinstance(error, NoJob):
        return "no job " + error.name
    if isinstance(error, BadLine):
        return "bad line"
    if isinstance(error, BadName):
        return "bad name"
    if isinstance(error, BadPlan):
        return "bad plan"
    if isinstance(error, BadTerm):
        return "bad term"
    if isinstance(error, BadTurn):
        return "bad turn"
    if isinstance(error, Busy):
        return "busy"
    if isinstance(error, Gone):
        return "gone"
    # What is left: a plan whose jobs need one another all round.
    return "ring"
