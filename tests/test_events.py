import inspect
import unittest

from buildhall import events
from buildhall.errors import BadEvent, BadLine
from buildhall.events import MOST_MUTE, event_line, event_of, need_events
from tests.helper import NO_NAMES, NO_TEXTS, NO_WHOLES, refused

MOST_TURN = 1000000000
GOOD = (
    (("fall", 3, "ann"), "fall 3 ann"), (("come", 9, "ann"), "come 9 ann"), (("slip", 4, "bob", "rain"), "slip 4 bob rain"),
    (("mute", 5, "bob", 7), "mute 5 bob 7"), (("fall", 0, "a"), "fall 0 a"),
    (("fall", MOST_TURN, "abcdefghijkl"), "fall 1000000000 abcdefghijkl"), (("come", MOST_TURN, "z"), "come 1000000000 z"),
    (("slip", MOST_TURN, "a", "abcdefghijkl"), "slip 1000000000 a abcdefghijkl"), (("mute", 0, "a", 1), "mute 0 a 1"),
    (("mute", MOST_TURN, "fall", 1000), "mute 1000000000 fall 1000"), (("slip", 0, "slip", "mute"), "slip 0 slip mute"),
)
# The parts behind the word: t a turn, w a name, m turns to be mute.
FORMS = {"fall": "tw", "come": "tw", "slip": "tww", "mute": "twm"}
NAMES = ["ann", "bob", "a", "abcdefghijkl", "z", "fall", "slip"]


def no_parts(kind):
    if kind == "w":
        return NO_NAMES
    most = MOST_TURN if kind == "t" else 1000
    return NO_WHOLES + (-1, -7, most + 1, most + 2, 1000100000, 10 ** 30, 10 ** 5000, "7") + ((0,) if kind == "m" else ())


class Interface(unittest.TestCase):
    def test_names(self):
        self.assertEqual(MOST_MUTE, 1000)
        self.assertIs(type(MOST_MUTE), int)
        self.assertEqual(list(inspect.signature(events.event_line).parameters), ["event"])
        self.assertEqual(list(inspect.signature(events.event_of).parameters), ["line"])
        self.assertEqual(list(inspect.signature(events.need_events).parameters), ["events", "names"])


class Point60Lines(unittest.TestCase):
    def test_written(self):
        for event, line in GOOD:
            self.assertEqual(event_line(event), line)

    def test_read(self):
        for event, line in GOOD:
            self.assertEqual(event_of(line), event)
            self.assertIs(type(event_of(line)), tuple)
            self.assertEqual([type(part) for part in event_of(line)], [type(part) for part in event])

    def bad(self, line):
        error = refused(self, BadLine, event_of, line)
        self.assertEqual(error.place, 0)
        self.assertIs(type(error.place), int)

    def test_bent_in_any_place(self):
        for event, line in GOOD:
            for at in range(len(line) + 1):
                for sign in (" ", "\t", "\n", "-", "A", ".", "_", "~"):
                    self.bad(line[:at] + sign + line[at:])
                    if line[at:at + 1] not in ("", sign):
                        self.bad(line[:at] + sign + line[at + 1:])

    def test_words_more_and_fewer(self):
        for event, line in GOOD:
            words = line.split(" ")
            for at in range(len(words)):
                self.bad(" ".join(words[:at] + words[at + 1:]))
            for more in ("7", "A", "7 7", "a a", line):
                self.bad(line + " " + more)
        self.bad("fall 3 ann bob")
        self.bad("slip 4 bob rain rain")
        self.bad("mute 5 bob 7 7")

    def test_parts(self):
        for event, line in GOOD:
            words = line.split(" ")
            for at, kind in enumerate(FORMS[event[0]], 1):
                others = {
                    "t": ("1000000001", "1000100000", "9999999999", "10000000000", "00", "07", "-1", "x", "+1"),
                    "w": ("Ann", "a1", "7", "abcdefghijklm", "-"),
                    "m": ("0", "1001", "1002", "1000100000", "01", "x", "-1", "00"),
                }[kind]
                for other in others:
                    self.bad(" ".join(words[:at] + [other] + words[at + 1:]))

    def test_other_words(self):
        for line in (
            "", " ", "fall", "Fall 3 ann", "falls 3 ann", "rise 3 ann", "turn 3", "slip 3 ann", "mute 3 ann", "fall ann 3",
            "mute 3 ann rain", "slip 3 ann 7", "3 fall ann",
        ):
            self.bad(line)

    def test_what_is_no_text(self):
        for thing in NO_TEXTS + (("fall", 3, "ann"), ["fall 3 ann"], ["fall", 3, "ann"], b"fall 3 ann"):
            self.bad(thing)


class Point60Events(unittest.TestCase):
    def bad(self, place, rows, names=NAMES):
        error = refused(self, BadEvent, need_events, rows, names)
        self.assertEqual(error.place, place)
        self.assertIs(type(error.place), int)

    def test_good_ones(self):
        self.assertIsNone(need_events([], NAMES))
        self.assertIsNone(need_events([], []))
        for event, line in GOOD:
            self.assertIsNone(need_events([event], NAMES))
        rows = sorted([event for event, line in GOOD], key=lambda event: event[1])
        self.assertIsNone(need_events(rows, NAMES))

    def test_like_turns_in_any_order(self):
        rows = [("fall", 3, "bob"), ("come", 3, "ann"), ("fall", 3, "ann"), ("fall", 3, "bob"), ("come", 3, "bob")]
        self.assertIsNone(need_events(rows, NAMES))

    def test_what_is_none(self):
        for event, line in GOOD:
            for at, kind in enumerate(FORMS[event[0]], 1):
                for other in no_parts(kind):
                    self.bad(0, [event[:at] + (other,) + event[at + 1:]])
            for other in (event[:-1], event + (0,), event + ("a",), event[1:], list(event), [event], (event,), line, None):
                self.bad(0, [other])
                self.bad(1, [("fall", 0, "ann"), other])
            for word in NO_TEXTS + ("", "Fall", event[0] + "s", "turn", "rise"):
                self.bad(0, [(word,) + event[1:]])

    def test_of_any_kind(self):
        for thing in NO_TEXTS + ("", "fall", (), [()]):
            self.bad(0, [thing])
            self.bad(2, [("fall", 0, "ann"), ("come", 1, "ann"), thing, thing])

    def test_of_none_of_the_names(self):
        self.bad(0, [("fall", 0, "cy")])
        self.bad(1, [("fall", 0, "ann"), ("fall", 0, "cy"), ("fall", 0, "di")])
        self.bad(0, [("fall", 0, "ann")], ["bob"])
        self.bad(0, [("fall", 0, "ann")], [])
        self.bad(0, [("slip", 0, "rain", "ann")], ["ann"])

    def test_a_turn_less_than_the_one_ahead(self):
        self.bad(1, [("fall", 3, "ann"), ("come", 2, "ann")])
        self.bad(2, [("fall", 3, "ann"), ("come", 5, "ann"), ("fall", 4, "ann"), ("come", 3, "ann")])
        self.bad(3, [("fall", 0, "ann"), ("come", 0, "ann"), ("fall", 1, "ann"), ("come", 0, "ann")])

    def test_the_first_one_goes_ahead(self):
        self.bad(1, [("fall", 3, "ann"), ("come", 2, "ann"), None, ("fall", 3, "cy")])
        self.bad(1, [("fall", 3, "ann"), None, ("come", 2, "ann")])
        self.bad(1, [("fall", 3, "ann"), ("fall", 3, "cy"), ("come", 2, "ann")])

    def test_what_is_no_list(self):
        for thing in NO_TEXTS[:9] + ("", "fall 3 ann", (), (("fall", 3, "ann"),), {}, {("fall", 3, "ann")}, object()):
            self.bad(0, thing)


class Point14HandedIn(unittest.TestCase):
    def test_lists_stay_and_what_is_made_good_is_taken(self):
        rows = [("fall", 3, "ann"), ("come", 2, "ann")]
        names = ["ann", "bob"]
        refused(self, BadEvent, need_events, rows, names)
        self.assertEqual((rows, names), ([("fall", 3, "ann"), ("come", 2, "ann")], ["ann", "bob"]))
        rows[1] = ("come", 3, "ann")
        self.assertIsNone(need_events(rows, names))
        self.assertEqual((rows, names), ([("fall", 3, "ann"), ("come", 3, "ann")], ["ann", "bob"]))


if __name__ == "__main__":
    unittest.main()
