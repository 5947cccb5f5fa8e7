"""What the tests share: values of every kind, and the check of a refusal."""

from buildhall import errors

ALL_REFUSALS = (
    "BadName", "BadNumber", "BadNeeds", "BadPlan", "Twice", "Busy", "Gone", "BadTerm", "NoAlarm",
    "BadStep", "BadState", "BadTurn", "BadBuilders", "NoJob", "Ring", "BadLine", "BadBook", "BadShot", "BadEvent",
)

NO_TEXTS = (
    None, True, False, 0, 1, 7, -1, 10 ** 5000, 1.0, [], ["a"], ["a", "b"], [[]], (), ("a",), ("a", "b"),
    {}, {"a": 1}, {"a", "b"}, b"a", object(), str, len,
)
NO_NAMES = NO_TEXTS + (
    "", "a" * 13, "a" * 5000, "A", "Roof", "roofS", "a1", "1", "0", "a b", " a", "a ", " ", "a\n", "\na", "a\t", "\t",
    "a_b", "_", "a-b", "a.b", "`", "{", "@", "[", "~", "!",
)
NO_WHOLES = (
    None, True, False, "", "0", "1", "a", 1.0, 0.0, [], [1], (), (1,), {}, {1: 1}, {1}, b"1", object(), int, len,
)


def own_classes(error):
    return [kind for kind in type(error).__mro__ if kind.__module__.split(".")[0] == "buildhall"]


def shown(thing):
    try:
        return repr(thing)[:200]
    except ValueError:
        return "a number of very many figures"


def refused(test, kind, call, *given, **named):
    """The refusal of a call: of just this class, under HallError and ValueError and no other one of the program."""
    try:
        call(*given, **named)
    except Exception as error:
        test.assertIs(type(error), kind, shown((given, named)))
        test.assertEqual(own_classes(error), [kind, errors.HallError])
        test.assertIsInstance(error, ValueError)
        return error
    return test.fail("not refused: " + shown((given, named)))
