"""How long a job rests behind its failings."""

MOST_WAIT = 100000


def wait_after(job, fails):
    wait = job.wait
    # A wait that doesn't grow any more is the same behind all later failings,
    # however many these are.
    behind = 1
    while behind < fails and wait < grown(job, wait):
        wait = grown(job, wait)
        behind += 1
    return wait


def grown(job, wait):
    return min(wait * job.grow, MOST_WAIT)


def rest_sum(job):
    return sum([wait_after(job, fails) for fails in range(1, job.tries)])
