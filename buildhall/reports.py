"""Reports of halls, and runs that are told by lines."""

from buildhall.events import event_of
from buildhall.forms import parts_line, read_all
from buildhall.plans import plan_of
from buildhall.reasons import why_not
from buildhall.runs import run


def report(hall):
    texts = [parts_line(job_parts(hall, place)) for place in hall.plan.order()]
    texts.append(parts_line(("over" if hall.is_ended() else "open", hall.turn)))
    return texts


def job_parts(hall, place):
    name = hall.plan.job_at(place).name
    told = hall.stands[place].told()
    word = told[0]
    if word == "done":
        return (name, word, told[3])
    if word == "broken":
        return (name, word, told[1], told[2])
    if word == "cut":
        return (name, word, hall.plan.job_at(told[1]).name)
    return (name, word, "for", why_not(hall, name)[-1][0])


def run_text(lines, term, names, event_lines, most):
    plan = plan_of(lines)
    events = read_all(event_lines, event_of)
    return report(run(plan, term, names, events, most).hall)
