"""What the tests share: values of every kind, and the check of a refusal."""

from buildhall import errors
from buildhall.jobs import Job

ALL_REFUSALS = (
    "BadName", "BadNumber", "BadNeeds", "BadPlan", "Twice", "Busy", "Gone", "BadTerm", "NoAlarm",
    "BadStep", "BadState", "BadTurn", "BadBuilders", "NoJob", "Ring", "BadLine", "BadBook", "BadShot", "BadEvent",
)

NO_TEXTS = (
    None, True, False, 0, 1, 7, -1, 10 ** 5000, 1.0, [], ["a"], ["a", "b"], [[]], (), ("a",), ("a", "b"),
    {}, {"a": 1}, {"a", "b"}, b"a", object(), str, len,
)
NO_NAMES = NO_TEXTS + (
    "", "a" * 13, "a" * 5000, "A", "Roof", "roofS", "a1", "1", "0", "a b", " a", "a ", " ", "a\n", "\na", "a\t", "\t",
    "a_b", "_", "a-b", "a.b", "`", "{", "@", "[", "~", "!",
)
NO_WHOLES = (
    None, True, False, "", "0", "1", "a", 1.0, 0.0, [], [1], (), (1,), {}, {1: 1}, {1}, b"1", object(), int, len,
)
# What is no number of a lease while fewer than a hundred were given.
NO_NUMBERS = NO_WHOLES + NO_TEXTS[7:] + (-1, -2, -(10 ** 30), 10 ** 30, "0", "zero", ["0"], (0,), {0: 0}, [0], [[]])


def own_classes(error):
    return [kind for kind in type(error).__mro__ if kind.__module__.split(".")[0] == "buildhall"]


def shown(thing):
    try:
        return repr(thing)[:200]
    except ValueError:
        return "a number of very many figures"


def refused(test, kind, call, *given, **named):
    """The refusal of a call: of just this class, under HallError and ValueError and no other one of the program."""
    try:
        call(*given, **named)
    except Exception as error:
        test.assertIs(type(error), kind, shown((given, named)))
        test.assertEqual(own_classes(error), [kind, errors.HallError])
        test.assertIsInstance(error, ValueError)
        return error
    return test.fail("not refused: " + shown((given, named)))


class Draw:
    """Numbers that look drawn, and are the same each time and under each Python."""

    def __init__(self, seed):
        self.now = seed * 2654435761 + 12345

    def below(self, most):
        self.now = (self.now * 6364136223846793005 + 1442695040888963407) % 2 ** 64
        return (self.now >> 33) % most

    def among(self, least, most):
        return least + self.below(most - least + 1)

    def pick(self, row):
        return row[self.below(len(row))]

    def mixed(self, row):
        left = list(row)
        return [left.pop(self.below(len(left))) for thing in row]


def name_at(number):
    """Unlike names: a to z, then ba, bb and so on."""
    letters = "abcdefghijklmnopqrstuvwxyz"
    text = letters[number % 26]
    return text if number < 26 else name_at(number // 26) + text


def drawn_jobs(draw, many, most_needs=3, **most):
    """Jobs without a ring, mixed; of the numbers named here up to that most."""
    names = draw.mixed([name_at(number) for number in range(many)])
    made = []
    for place, name in enumerate(names):
        needs = draw.mixed(names[:place])[:draw.below(most_needs + 1)]
        least = {"rank": 0, "span": 1, "tries": 1, "wait": 0, "grow": 1}
        made.append(Job(name, needs, **{part: draw.among(least[part], most[part]) for part in sorted(most)}))
    return draw.mixed(made)


def told_job(job):
    return (job.name, job.needs, job.rank, job.span, job.tries, job.wait, job.grow)
