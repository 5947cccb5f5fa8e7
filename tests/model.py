"""A plain model of the hall (points 41 to 47), of shots (50 to 52) and of books (53).

It keeps nothing in order and finds each thing by looking through all there is, so that it shares no way
with the program.
"""

import copy

from buildhall.errors import HallError
from buildhall.halls import Hall
from buildhall.plans import Plan
from tests.helper import Draw, drawn_jobs

MOST_TURN = 1000000000
MOST_NUMBER = 1000100000
LETTERS = set("abcdefghijklmnopqrstuvwxyz")


class No(Exception):
    """A refusal, by the name of its class."""


def whole(thing, least=0, most=MOST_NUMBER):
    return type(thing) is int and least <= thing <= most


def name(thing):
    return type(thing) is str and 1 <= len(thing) <= 12 and set(thing) <= LETTERS


def rest(job, fails):
    turns = job.wait
    for more in range(fails - 1):
        turns = min(turns * job.grow, 100000)
    return turns


class Model:
    def __init__(self, jobs, term):
        self.jobs = jobs
        self.places = {job.name: place for place, job in enumerate(jobs)}
        self.term = term
        self.turn = 0
        self.given = 0
        self.book = []
        self.told = [("blocked", len(job.needs)) if job.needs else ("ready", 0) for job in jobs]
        self.since = {place: 0 for place, job in enumerate(jobs) if not job.needs}
        self.leases = {}

    def write(self, *entry):
        self.book.append(entry)

    def behind(self, place):
        """The blocked ones that need it, by places."""
        here = self.jobs[place].name
        return [at for at, job in enumerate(self.jobs) if here in job.needs and self.told[at][0] == "blocked"]

    def ready(self, place, fails):
        self.told[place] = ("ready", fails)
        self.since[place] = self.turn
        self.write("ready", place)

    def of(self, number):
        if type(number) is not int or number not in self.leases:
            raise No("Gone")
        return self.leases[number]

    def holder(self, worker):
        return [number for number in self.leases if self.leases[number][2] == worker]

    def ask(self, worker):
        if not name(worker):
            raise No("BadName")
        if self.holder(worker):
            raise No("Busy")
        free = [place for place, told in enumerate(self.told) if told[0] == "ready"]
        for place in free:
            rank = self.jobs[place].rank
            ahead = [
                other for other in free
                if self.jobs[other].rank > rank
                or self.jobs[other].rank == rank and self.since[other] < self.since[place]
                or self.jobs[other].rank == rank and self.since[other] == self.since[place] and other < place
            ]
            if not ahead:
                self.leases[self.given] = (self.given, place, worker, self.turn, self.turn + self.term)
                self.told[place] = ("leased", self.told[place][1], self.given)
                self.write("lease", self.given, place, worker, self.turn + self.term)
                self.given += 1
                return

    def renew(self, number):
        lease = self.of(number)
        self.leases[number] = lease[:4] + (self.turn + self.term,)
        self.write("renew", number, self.turn + self.term)

    def done(self, number):
        place = self.of(number)[1]
        self.leases.pop(number)
        self.told[place] = ("done", self.told[place][1], number, self.turn)
        self.write("done", number)
        for other in self.behind(place):
            left = self.told[other][1] - 1
            self.told[other] = ("blocked", left)
            if left == 0:
                self.ready(other, 0)

    def fail(self, number, why):
        self.of(number)
        if not name(why):
            raise No("BadName")
        self.write("fail", number, why)
        self.failed(number, why)

    def failed(self, number, why):
        place = self.leases.pop(number)[1]
        job = self.jobs[place]
        fails = self.told[place][1] + 1
        if fails == job.tries:
            self.told[place] = ("broken", fails, why)
            self.write("break", place)
            self.cut([place])
        elif rest(job, fails) == 0:
            self.ready(place, fails)
        else:
            self.told[place] = ("resting", fails, self.turn + rest(job, fails))
            self.write("rest", place, self.turn + rest(job, fails))

    def cut(self, row):
        # The row may grow while it is gone along: to Python that is a walk like any other.
        for need in row:
            for other in self.behind(need):
                self.told[other] = ("cut", need)
                self.write("cut", other, need)
                row.append(other)

    def again(self, worker):
        if not name(worker):
            raise No("BadName")
        for number in self.holder(worker):
            self.fail(number, "fell")

    def alarms(self):
        rows = [(lease[4], 0, number) for number, lease in self.leases.items()]
        rows.extend([(told[2], 1, place) for place, told in enumerate(self.told) if told[0] == "resting"])
        return sorted(rows)

    def pass_on(self, turns=1):
        if not whole(turns, 0, MOST_TURN) or self.turn + turns > MOST_TURN:
            raise No("BadTurn")
        goal = self.turn + turns
        while self.turn < goal:
            # Turn by turn would do the same; only the turns at which something rings are gone to.
            self.turn = min([alarm[0] for alarm in self.alarms() if alarm[0] <= goal] + [goal])
            self.write("turn", self.turn)
            for turn, sort, number in [alarm for alarm in self.alarms() if alarm[0] == self.turn]:
                if sort == 0:
                    self.write("out", number)
                    self.failed(number, "out")
                else:
                    self.ready(number, self.told[number][1])

    def do(self, deed, *given):
        """The entries of a deed, or the name of its refusal."""
        many = len(self.book)
        try:
            getattr(self, deed)(*given)
        except No as no:
            return no.args[0]
        return self.book[many:]

    def is_ended(self):
        return all(told[0] in ("done", "broken", "cut") for told in self.told)

    def readies(self):
        rows = [(-self.jobs[at].rank, self.since[at], at) for at, told in enumerate(self.told) if told[0] == "ready"]
        return [(place, -rank, since) for rank, since, place in sorted(rows)]

    def shot(self):
        lines = ["hall %d %d %d" % (self.term, self.turn, self.given)]
        for place, told in enumerate(self.told):
            more = (self.since[place],) if told[0] == "ready" else ()
            lines.append(" ".join(["job", str(place)] + [str(part) for part in told + more]))
        for number in sorted(self.leases):
            lines.append(" ".join(["lease"] + [str(part) for part in self.leases[number]]))
        return lines + ["end %d" % len(lines)]


def all_told(hall):
    return (
        hall.turn, hall.states(), hall.entries(), hall.open_leases(), hall.alarms.rows(), hall.readies.rows(),
        hall.leases.term, hall.leases.given, hall.next_turn(), hall.is_ended(),
    )


def same(test, hall, model):
    """Holds all that a hall tells against the model."""
    test.assertEqual(hall.turn, model.turn)
    test.assertEqual(hall.states(), model.told)
    test.assertEqual(hall.entries(), model.book)
    test.assertEqual(hall.open_leases(), [model.leases[number] for number in sorted(model.leases)])
    test.assertEqual(hall.alarms.rows(), model.alarms())
    test.assertEqual(hall.next_turn(), min([alarm[0] for alarm in model.alarms()], default=None))
    test.assertEqual(hall.readies.rows(), model.readies())
    test.assertEqual((hall.leases.term, hall.leases.given), (model.term, model.given))
    test.assertEqual(hall.is_ended(), model.is_ended())


def drawn_deed(draw, model, workers, far=6):
    """A deed with what it is handed; most are good ones, some are not."""
    numbers = sorted(model.leases) + [draw.below(model.given + 2)]
    deed = draw.pick(
        ["ask"] * 6 + ["renew"] * 2 + ["done"] * 4 + ["fail"] * 3 + ["again"] + ["pass_on"] * 5 + ["bad"]
    )
    if deed in ("ask", "again"):
        return (deed, draw.pick(workers))
    if deed in ("renew", "done"):
        return (deed, draw.pick(numbers))
    if deed == "fail":
        return (deed, draw.pick(numbers), draw.pick(["slip", "fire", "rain"]))
    if deed == "pass_on":
        return (deed, draw.below(far))
    return draw.pick([
        ("ask", "No Name"), ("again", ""), ("fail", draw.pick(numbers), "No"), ("pass_on", -1), ("renew", None),
        ("done", True), ("pass_on", MOST_TURN + 1), ("ask", draw.pick(workers)),
    ])


def drawn_hall(seed, many, deeds, most_needs=3, **most):
    """A hall and a model behind the same drawn deeds."""
    draw = Draw(seed)
    jobs = drawn_jobs(draw, many, most_needs, **most)
    hall = Hall(Plan(jobs), draw.among(2, 9))
    model = Model(jobs, hall.leases.term)
    workers = ["ann", "bob", "cy", "di", "ed"][:draw.among(1, 5)]
    for step in range(deeds):
        deed = drawn_deed(draw, model, workers)
        model.do(*deed)
        try:
            getattr(hall, deed[0])(*deed[1:])
        except HallError:
            pass
    return (hall, model)


def form_of(line, place, many):
    """The parts of a shot's line by point 51, or None."""
    if type(line) is not str or "" in line.split(" "):
        return None
    parts = []
    for word in line.split(" "):
        figures = word.isdigit() and len(word) <= 10 and (word == "0" or word[0] != "0")
        parts.append(int(word) if figures else word)

    def like(kinds, row):
        checks = {"n": whole, "w": name, "t": lambda part: whole(part, 0, MOST_TURN), "l": lambda part: whole(part, 1),
                  "T": lambda part: whole(part, 2, 1000)}
        return len(kinds) == len(row) and all(checks[kind](part) for kind, part in zip(kinds, row))

    kinds = {"blocked": "l", "ready": "nn", "resting": "nn", "leased": "nn", "done": "nnn", "broken": "nw", "cut": "n"}
    if place == 0:
        good = parts[0] == "hall" and like("Ttn", parts[1:])
    elif place <= many:
        good = parts[0] == "job" and len(parts) > 2 and parts[1] == place - 1 and parts[2] in kinds
        good = good and like(kinds[parts[2]], parts[3:])
    elif parts[0] == "lease":
        good = like("nnwnn", parts[1:])
    else:
        good = parts == ["end", place]
    return parts if good else None


def wrong_line(jobs, lines):
    """The place of the first wrong line of a shot, by points 51 and 52, or None."""
    many = len(jobs)
    if type(lines) is not list:
        return 0
    rows = []
    for place, line in enumerate(lines):
        if rows and rows[-1][0] == "end" or form_of(line, place, many) is None:
            return place
        rows.append(form_of(line, place, many))
    if not rows or rows[-1][0] != "end":
        return len(rows)
    term, turn, given = rows[0][1:]
    told = [row[2:] for row in rows[1:many + 1]]
    places = {job.name: place for place, job in enumerate(jobs)}
    seen = []
    for place, how in enumerate(told):
        needs = [told[places[need]][0] for need in jobs[place].needs]
        undone = [word for word in needs if word != "done"]
        bad = []
        if how[0] == "blocked":
            bad.append(len(undone) != how[1] or set(undone) & {"broken", "cut"} != set())
        elif how[0] == "cut":
            by = [places[need] for need in jobs[place].needs if told[places[need]][0] in ("broken", "cut")]
            bad.append(how[1] not in by)
        else:
            bad.append(undone != [])
            bad.append((how[1] != jobs[place].tries) if how[0] == "broken" else how[1] >= jobs[place].tries)
        bad.append(how[0] == "ready" and how[2] > turn)
        bad.append(how[0] == "done" and how[3] > turn)
        bad.append(how[0] == "resting" and how[2] <= turn)
        if how[0] in ("leased", "done"):
            bad.append(how[2] >= given or how[2] in seen)
            seen.append(how[2])
        if any(bad):
            return place + 1
    last = -1
    workers = []
    numbers = []
    for place, row in enumerate(rows[many + 1:-1], many + 1):
        number, where, worker, begin, end = row[1:]
        bad = number <= last or where >= many or told[where][0] != "leased" or told[where][2] != number
        bad = bad or worker in workers or begin > turn or end <= turn or end < begin + term or end > turn + term
        if bad:
            return place
        last = number
        workers.append(worker)
        numbers.append(number)
    for place, how in enumerate(told):
        if how[0] == "leased" and how[2] not in numbers:
            return place + 1
    return None


def is_entry(thing):
    kinds = {"turn": "t", "lease": "nnwn", "renew": "nn", "done": "n", "fail": "nw", "out": "n", "ready": "n",
             "rest": "nn", "break": "n", "cut": "nn"}
    if type(thing) is not tuple or not thing or type(thing[0]) is not str or thing[0] not in kinds:
        return False
    checks = {"n": whole, "w": name, "t": lambda part: whole(part, 0, MOST_TURN)}
    wanted = kinds[thing[0]]
    return len(wanted) + 1 == len(thing) and all(checks[kind](part) for kind, part in zip(wanted, thing[1:]))


def led(model, entries):
    """The place of the first entry that can't stand by point 53, or None; the model is led on meanwhile."""
    due = []
    for place, entry in enumerate(entries):
        if not is_entry(entry):
            return place
        if due:
            if entry != due.pop(0):
                return place
            continue
        deed = {"lease": ("ask",) + entry[3:4], "renew": ("renew",) + entry[1:2], "done": ("done",) + entry[1:2],
                "fail": ("fail",) + entry[1:3]}.get(entry[0])
        if entry[0] == "turn" and entry[1] > model.turn:
            deed = ("pass_on", entry[1] - model.turn)
        wrote = "none" if deed is None else model.do(*deed)
        if type(wrote) is str or not wrote or wrote[0] != entry:
            return place
        due = wrote[1:]
    return None


def twin(model):
    return copy.deepcopy(model)
