import inspect
import unittest

from buildhall import entries
from buildhall.entries import entry_line, entry_of, is_entry
from buildhall.errors import BadLine
from tests import model
from tests.helper import NO_NAMES, NO_TEXTS, NO_WHOLES, refused, shown

MOST_TURN = 1000000000
MOST = 1000100000
# Each kind by its word, and its parts: t a turn, n another number, w a name.
FORMS = {
    "turn": "t", "lease": "nnwn", "renew": "nn", "done": "n", "fail": "nw", "out": "n", "ready": "n", "rest": "nn",
    "break": "n", "cut": "nn",
}
GOOD = (
    (("turn", 7), "turn 7"), (("lease", 0, 1, "ann", 10), "lease 0 1 ann 10"), (("renew", 3, 14), "renew 3 14"),
    (("done", 5), "done 5"), (("fail", 5, "slip"), "fail 5 slip"), (("out", 6), "out 6"), (("ready", 2), "ready 2"),
    (("rest", 2, 40), "rest 2 40"), (("break", 4), "break 4"), (("cut", 4, 3), "cut 4 3"),
    (("turn", 0), "turn 0"), (("turn", MOST_TURN), "turn 1000000000"),
    (("lease", MOST, MOST, "abcdefghijkl", MOST), "lease 1000100000 1000100000 abcdefghijkl 1000100000"),
    (("lease", 0, 0, "z", 0), "lease 0 0 z 0"), (("rest", MOST, MOST), "rest 1000100000 1000100000"),
    (("fail", MOST, "lease"), "fail 1000100000 lease"), (("cut", 0, 0), "cut 0 0"), (("ready", MOST), "ready 1000100000"),
    (("renew", MOST, MOST), "renew 1000100000 1000100000"), (("done", MOST), "done 1000100000"),
    (("out", MOST), "out 1000100000"), (("break", MOST), "break 1000100000"),
    (("cut", MOST, MOST), "cut 1000100000 1000100000"),
)


class Interface(unittest.TestCase):
    def test_arguments(self):
        self.assertEqual(list(inspect.signature(entries.is_entry).parameters), ["thing"])
        self.assertEqual(list(inspect.signature(entries.entry_line).parameters), ["entry"])
        self.assertEqual(list(inspect.signature(entries.entry_of).parameters), ["line"])


class Point40Entries(unittest.TestCase):
    def no(self, thing):
        self.assertIs(is_entry(thing), False, shown(thing))

    def test_good_ones(self):
        self.assertEqual({entry[0] for entry, line in GOOD}, set(FORMS))
        for entry, line in GOOD:
            self.assertIs(is_entry(entry), True, entry)

    def test_other_parts(self):
        for entry, line in GOOD:
            for at, kind in enumerate(FORMS[entry[0]], 1):
                most = MOST_TURN if kind == "t" else MOST
                others = NO_NAMES if kind == "w" else NO_WHOLES + (-1, -7, most + 1, most + 2, 10 ** 30, 10 ** 5000, "7")
                for other in others:
                    self.no(entry[:at] + (other,) + entry[at + 1:])

    def test_the_bounds_of_turns_and_other_numbers(self):
        self.no(("turn", MOST_TURN + 1))
        self.no(("turn", MOST))
        self.assertIs(is_entry(("rest", 0, MOST_TURN + 1)), True)
        self.assertIs(is_entry(("renew", 0, MOST)), True)
        self.no(("renew", 0, MOST + 1))

    def test_parts_more_and_fewer(self):
        for entry, line in GOOD:
            self.no(entry[:-1])
            self.no(entry[1:])
            self.no(entry[:1])
            for more in (0, 1, "a", None, ()):
                self.no(entry + (more,))
            self.no(entry + entry)

    def test_other_words(self):
        for entry, line in GOOD:
            for word in NO_TEXTS + ("", "Turn", entry[0] + " ", entry[0].upper(), entry[0] + "s", "blocked", [entry[0]]):
                self.no((word,) + entry[1:])

    def test_words_with_the_parts_of_another(self):
        for entry, line in GOOD:
            for word in FORMS:
                other = (word,) + entry[1:]
                self.assertIs(is_entry(other), model.is_entry(other), other)
                if FORMS[word].replace("t", "n") != FORMS[entry[0]].replace("t", "n"):
                    self.no(other)

    def test_what_is_no_tuple(self):
        for thing in NO_TEXTS + ("", "turn", "turn 7", (), (), [()], ((),)):
            self.no(thing)
        for entry, line in GOOD:
            self.no(list(entry))
            self.no([entry])
            self.no((entry,))
            self.no(line)
            self.no({entry: 1})


class Point40Lines(unittest.TestCase):
    def test_written(self):
        for entry, line in GOOD:
            self.assertEqual(entry_line(entry), line)
            self.assertIs(type(entry_line(entry)), str)

    def test_read(self):
        for entry, line in GOOD:
            self.assertEqual(entry_of(line), entry)
            self.assertIs(type(entry_of(line)), tuple)
            self.assertEqual([type(part) for part in entry_of(line)], [type(part) for part in entry])

    def bad(self, line):
        error = refused(self, BadLine, entry_of, line)
        self.assertEqual(error.place, 0)

    def test_bent_in_any_place(self):
        for entry, line in GOOD:
            for at in range(len(line) + 1):
                for sign in (" ", "\t", "\n", "-", "A", ".", "_", "~"):
                    self.bad(line[:at] + sign + line[at:])
                    if line[at:at + 1] not in ("", sign):
                        self.bad(line[:at] + sign + line[at + 1:])

    def test_left_out_in_any_place(self):
        # What is left is an entry's line only where it is written just as that entry is.
        for entry, line in GOOD:
            for at in range(len(line)):
                bent = line[:at] + line[at + 1:]
                try:
                    self.assertEqual(entry_line(entry_of(bent)), bent)
                except BadLine:
                    words = bent.split(" ")
                    self.assertFalse(is_entry(tuple(
                        [int(word) if word.isdigit() and str(int(word)) == word else word for word in words]
                    )), bent)

    def test_words_more_and_fewer(self):
        for entry, line in GOOD:
            words = line.split(" ")
            self.bad(" ".join(words[:-1]))
            self.bad(" ".join(words[1:]))
            for more in ("0", "a", "turn", "7"):
                self.bad(line + " " + more)
            self.bad(line + " " + line)

    def test_numbers_not_written_so(self):
        for entry, line in GOOD:
            words = line.split(" ")
            for at, kind in enumerate(FORMS[entry[0]], 1):
                others = ("00", "07", "+7", "-1", "1000100001", "9999999999", "10000000000", "a", "7.", "None", "True")
                others = ("A", "a1", "7", "abcdefghijklm", "-", "a_b") if kind == "w" else others
                for other in others:
                    self.bad(" ".join(words[:at] + [other] + words[at + 1:]))
        self.bad("turn 1000000001")
        self.bad("turn 1000100000")

    def test_other_lines(self):
        for line in ("", " ", "turn", "entry 7", "blocked 1", "leased 0 0", "Turn 7", "turn seven", "7 turn", "7", "a"):
            self.bad(line)

    def test_what_is_no_text(self):
        for thing in NO_TEXTS + (("turn", 7), ["turn", 7], ["turn 7"], ("turn 7",), b"turn 7"):
            self.bad(thing)


if __name__ == "__main__":
    unittest.main()
