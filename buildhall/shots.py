"""Shots: lines that tell how a hall stands, and halls that stand up from them."""

from buildhall.errors import BadShot
from buildhall.forms import parts_by, parts_line
from buildhall.halls import hall_as
from buildhall.leases import is_term
from buildhall.states import state_of
from buildhall.words import number_of, words_of

HEAD_FORMS = (("hall", "number", "turn", "number"),)
JOB_FORMS = (
    ("blocked", "left"),
    ("ready", "number", "number"),
    ("resting", "number", "number"),
    ("leased", "number", "number"),
    ("done", "number", "number", "number"),
    ("broken", "number", "name"),
    ("cut", "number"),
)
TAIL_FORMS = (("lease", "number", "number", "name", "number", "number"), ("end", "number"))


def shot(hall):
    rows = [("hall", hall.leases.term, hall.turn, hall.leases.given)]
    since = dict([(row[0], row[2]) for row in hall.readies.rows()])
    for place, told in enumerate(hall.states()):
        row = ("job", place) + told
        rows.append(row + (since[place],) if told[0] == "ready" else row)
    rows.extend([("lease",) + lease for lease in hall.open_leases()])
    rows.append(("end", len(rows)))
    return [parts_line(row) for row in rows]


def hall_of(plan, lines):
    rows = rows_of(plan.many(), lines)
    head = rows[0]
    jobs = rows[1:plan.many() + 1]
    leases = [row[1:] for row in rows[plan.many() + 1:-1]]
    check_jobs(plan, head, jobs)
    check_leases(head, jobs, leases)
    check_leased(jobs, leases)
    stands = [state_of(row[:2] if row[0] == "ready" else row) for row in jobs]
    readies = [
        (place, plan.job_at(place).rank, row[2]) for place, row in enumerate(jobs) if row[0] == "ready"
    ]
    return hall_as(plan, head[1], head[2], stands, head[3], leases, readies)


def rows_of(many, lines):
    """What the lines tell, a tuple each; of a job's line without `job` and its place."""
    if not isinstance(lines, list):
        raise BadShot(0)
    rows = []
    ended = False
    for place, line in enumerate(lines):
        row = None if ended else row_of(many, place, line)
        if row is None:
            raise BadShot(place)
        rows.append(row)
        ended = row[0] == "end"
    if not ended:
        raise BadShot(len(rows))
    return rows


def row_of(many, place, line):
    words = words_of(line)
    if words is None:
        return None
    if place == 0:
        return head_row(words)
    if place <= many:
        return job_row(words, place - 1)
    row = parts_by(words, TAIL_FORMS)
    if row is not None and row[0] == "end" and row[1] != place:
        return None
    return row


def head_row(words):
    row = parts_by(words, HEAD_FORMS)
    return row if row is not None and is_term(row[1]) else None


def job_row(words, place):
    if len(words) < 2 or words[0] != "job" or number_of(words[1]) != place:
        return None
    return parts_by(words[2:], JOB_FORMS)


def check_jobs(plan, head, jobs):
    for place, row in enumerate(jobs):
        good = needs_agree(plan.wants(place), jobs, row) and fails_agree(plan.job_at(place), row)
        good = good and turns_agree(head[2], row) and number_agrees(head[3], jobs[:place], row)
        if not good:
            raise BadShot(place + 1)


def needs_agree(wants, jobs, row):
    words = [jobs[need][0] for need in wants]
    left = len([word for word in words if word != "done"])
    if row[0] == "blocked":
        return left == row[1] and "broken" not in words and "cut" not in words
    if row[0] == "cut":
        return row[1] in wants and jobs[row[1]][0] in ("broken", "cut")
    return left == 0


def fails_agree(job, row):
    if row[0] in ("blocked", "cut"):
        return True
    return row[1] == job.tries if row[0] == "broken" else row[1] < job.tries


def turns_agree(turn, row):
    if row[0] == "ready":
        return row[2] <= turn
    if row[0] == "done":
        return row[3] <= turn
    return row[0] != "resting" or row[2] > turn


def has_number(row):
    return row[0] in ("leased", "done")


def number_agrees(given, ahead, row):
    if not has_number(row):
        return True
    return row[2] < given and row[2] not in [other[2] for other in ahead if has_number(other)]


def check_leases(head, jobs, leases):
    for at, lease in enumerate(leases):
        ahead = leases[:at]
        rising = not ahead or lease[0] > ahead[-1][0]
        alone = lease[2] not in [other[2] for other in ahead]
        if not rising or not alone or not is_leased(jobs, lease) or not ends_agree(head, lease):
            raise BadShot(len(jobs) + 1 + at)


def is_leased(jobs, lease):
    place = lease[1]
    return place < len(jobs) and jobs[place][0] == "leased" and jobs[place][2] == lease[0]


def ends_agree(head, lease):
    term = head[1]
    turn = head[2]
    begin = lease[3]
    end = lease[4]
    return begin <= turn < end and begin + term <= end <= turn + term


def check_leased(jobs, leases):
    numbers = [lease[0] for lease in leases]
    for place, row in enumerate(jobs):
        if row[0] == "leased" and row[2] not in numbers:
            raise BadShot(place + 1)
