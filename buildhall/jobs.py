"""Jobs: what they have, and how they are written as lines and read from them."""

from buildhall.errors import BadLine, BadName, BadNeeds, BadNumber, HallError
from buildhall.words import is_among, is_name, number_of, number_text, words_of

MOST_NEEDS = 8

# The numbers of a job in the order of its line: the word, the least and the most.
# The least one is also what stands for a number that isn't told.
PARTS = (
    ("rank", 0, 99),
    ("span", 1, 1000),
    ("tries", 1, 20),
    ("wait", 0, 1000),
    ("grow", 1, 4),
)


class Job:
    def __init__(self, name, needs=None, rank=0, span=1, tries=1, wait=0, grow=1):
        check_name(name)
        check_needs(needs, name)
        check_numbers((rank, span, tries, wait, grow))
        self.name = name
        self.needs = [] if needs is None else list(needs)
        self.rank = rank
        self.span = span
        self.tries = tries
        self.wait = wait
        self.grow = grow


def check_name(name):
    if not is_name(name):
        raise BadName("a job's name is one to twelve letters a to z")


def check_needs(needs, name):
    if needs is not None and not are_needs(needs, name):
        raise BadNeeds("needs are a list or a tuple of at most eight unlike names of other jobs")


def are_needs(needs, name):
    if not isinstance(needs, (list, tuple)) or len(needs) > MOST_NEEDS:
        return False
    if not all([is_name(need) for need in needs]):
        return False
    return name not in needs and len(set(needs)) == len(needs)


def check_numbers(numbers):
    for part, number in zip(PARTS, numbers):
        word = part[0]
        least = part[1]
        most = part[2]
        # The number itself is not told: it may be of any kind, and of any length.
        if not is_among(number, least, most):
            raise BadNumber(f"{word} is a whole number from {least} to {most}")


def job_line(job):
    words = ["job", job.name]
    numbers = (job.rank, job.span, job.tries, job.wait, job.grow)
    for part, number in zip(PARTS, numbers):
        if number != part[1]:
            words.extend([part[0], number_text(number)])
    if job.needs:
        words.append("needs")
        words.extend(job.needs)
    return " ".join(words)


def job_of(line):
    words = words_of(line)
    if words is None or len(words) < 2 or words[0] != "job":
        raise BadLine(0)
    numbers = []
    rest = words[2:]
    for part in PARTS:
        if rest[:1] == [part[0]]:
            numbers.append(number_behind(rest))
            rest = rest[2:]
        else:
            numbers.append(part[1])
    return job_by(words[1], needs_in(rest), numbers)


def number_behind(words):
    # None, which a job refuses, also where nothing stands behind the first word.
    return number_of(words[1]) if len(words) > 1 else None


def needs_in(words):
    if not words:
        return []
    if words[0] != "needs" or len(words) == 1:
        raise BadLine(0)
    return words[1:]


def job_by(name, needs, numbers):
    try:
        return Job(name, needs, numbers[0], numbers[1], numbers[2], numbers[3], numbers[4])
    except HallError:
        raise BadLine(0) from None
