"""Plans: jobs that need one another, each at its place."""

from buildhall.errors import BadPlan, NoJob, Ring, Twice
from buildhall.forms import read_all
from buildhall.jobs import Job, job_line, job_of
from buildhall.rings import order_of, ring_of
from buildhall.words import is_name

MOST_JOBS = 40


class Plan:
    def __init__(self, jobs):
        check_jobs(jobs)
        self.jobs = list(jobs)
        # The plan goes by these alone: what is done with the list above changes nothing.
        self.kept = tuple(jobs)
        self.places = dict([(job.name, place) for place, job in enumerate(jobs)])
        check_names(self.places, jobs)
        check_needs(self.places, jobs)
        check_rings(self)

    def many(self):
        return len(self.kept)

    def job_at(self, place):
        return self.kept[place]

    def place_of(self, name):
        # Not each thing that is asked for can be looked up in a dict.
        if not is_name(name) or name not in self.places:
            raise NoJob(name)
        return self.places[name]

    def wants(self, place):
        return sorted([self.places[need] for need in self.kept[place].needs])

    def wanted_by(self, place):
        name = self.kept[place].name
        return [other for other, job in enumerate(self.kept) if name in job.needs]

    def all_wants(self):
        return [self.wants(place) for place in range(self.many())]

    def order(self):
        return order_of(self.all_wants())


def check_jobs(jobs):
    if not isinstance(jobs, list) or not 1 <= len(jobs) <= MOST_JOBS:
        raise BadPlan(f"a plan is a list of one to {MOST_JOBS} jobs")
    if not all([isinstance(job, Job) for job in jobs]):
        raise BadPlan("a plan is of jobs alone")


def check_names(places, jobs):
    if len(places) < len(jobs):
        raise Twice("two jobs of a plan have one name")


def check_needs(places, jobs):
    for job in jobs:
        for need in job.needs:
            if need not in places:
                raise NoJob(need)


def check_rings(plan):
    ring = ring_of(plan.all_wants())
    if ring is not None:
        raise Ring([plan.job_at(place).name for place in ring])


def plan_of(lines):
    return Plan(read_all(lines, job_of))


def plan_lines(plan):
    return [job_line(plan.job_at(place)) for place in range(plan.many())]
