"""The turn by which a plan is over, where one builder is steady."""

from buildhall.waits import rest_sum


def bound(plan, term):
    jobs = [plan.job_at(place) for place in range(plan.many())]
    return sum([job.tries * (job.span + term) + rest_sum(job) for job in jobs])
