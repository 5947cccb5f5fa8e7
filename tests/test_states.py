import inspect
import unittest

from buildhall.errors import BadState, BadStep
from buildhall.jobs import Job
from buildhall.states import (
    Blocked, Broken, Cut, Done, Leased, Open, Over, Ready, Resting, State, first_state, state_of,
)
from tests.helper import NO_NAMES, NO_TEXTS, NO_WHOLES, refused, shown

GREAT = 10 ** 30
# Each kind of state: its class, what it is made of, the word, whether it is over, its failings.
KINDS = (
    (Blocked, (1,), "blocked", False, 0), (Blocked, (8,), "blocked", False, 0), (Blocked, (GREAT,), "blocked", False, 0),
    (Ready, (0,), "ready", False, 0), (Ready, (7,), "ready", False, 7), (Ready, (GREAT,), "ready", False, GREAT),
    (Leased, (0, 0), "leased", False, 0), (Leased, (3, 9), "leased", False, 3),
    (Leased, (GREAT, GREAT), "leased", False, GREAT),
    (Resting, (0, 0), "resting", False, 0), (Resting, (2, 50), "resting", False, 2),
    (Resting, (1, 1000100000), "resting", False, 1), (Resting, (1, GREAT), "resting", False, 1),
    (Done, (0, 0, 0), "done", True, 0), (Done, (4, 5, 6), "done", True, 4), (Done, (1, GREAT, GREAT), "done", True, 1),
    (Broken, (0, "out"), "broken", True, 0), (Broken, (3, "fell"), "broken", True, 3),
    (Broken, (20, "abcdefghijkl"), "broken", True, 20), (Broken, (GREAT, "z"), "broken", True, GREAT),
    (Cut, (0,), "cut", True, 0), (Cut, (39,), "cut", True, 0), (Cut, (GREAT,), "cut", True, 0),
)
JOB = Job("roof", None, 0, 1, 3, 5, 2)
STEPS = (
    ("freed", ()), ("leased", (4,)), ("ended", (9,)), ("failed", (JOB, 9, "slip")), ("rested", ()), ("cut_off", (2,)),
)
SUITS = {"blocked": ("freed", "cut_off"), "ready": ("leased",), "leased": ("ended", "failed"), "resting": ("rested",)}


def is_state(test, state, kind, told):
    test.assertIs(type(state), kind)
    test.assertEqual(state.told(), told)
    test.assertIs(type(state.told()), tuple)


class Interface(unittest.TestCase):
    def test_classes(self):
        self.assertEqual(Open.__bases__, (State,))
        self.assertEqual(Over.__bases__, (State,))
        for kind in (Blocked, Ready, Leased, Resting):
            self.assertEqual(kind.__bases__, (Open,))
        for kind in (Done, Broken, Cut):
            self.assertEqual(kind.__bases__, (Over,))

    def test_arguments(self):
        for call, arguments in (
            (State, []), (Blocked, ["left"]), (Ready, ["fails"]), (Leased, ["fails", "number"]),
            (Resting, ["fails", "until"]), (Done, ["fails", "number", "turn"]), (Broken, ["fails", "why"]),
            (Cut, ["need"]), (first_state, ["job"]), (state_of, ["told"]),
        ):
            self.assertEqual(list(inspect.signature(call).parameters), arguments)
        told = {
            "word": [], "is_over": [], "count_fails": [], "told": [], "freed": [], "leased": ["number"],
            "ended": ["turn"], "failed": ["job", "turn", "why"], "rested": [], "cut_off": ["need"],
        }
        for kind in (State, Open, Over, Blocked, Ready, Leased, Resting, Done, Broken, Cut):
            for name, arguments in told.items():
                found = list(inspect.signature(getattr(kind, name)).parameters)
                self.assertEqual(found, ["self"] + arguments, (kind, name))


class Point30States(unittest.TestCase):
    def test_what_each_tells(self):
        for kind, parts, word, over, fails in KINDS:
            state = kind(*parts)
            is_state(self, state, kind, (word,) + parts)
            self.assertEqual(state.word(), word)
            self.assertIs(state.is_over(), over)
            self.assertEqual(state.count_fails(), fails)
            self.assertIsInstance(state, Over if over else Open)
            self.assertNotIsInstance(state, Open if over else Over)
            self.assertIsInstance(state, State)

    def test_made_by_names(self):
        self.assertEqual(Done(turn=3, number=2, fails=1).told(), ("done", 1, 2, 3))
        self.assertEqual(Broken(why="a", fails=1).told(), ("broken", 1, "a"))


class Point31Steps(unittest.TestCase):
    def test_freed(self):
        is_state(self, Blocked(3).freed(), Blocked, ("blocked", 2))
        is_state(self, Blocked(2).freed(), Blocked, ("blocked", 1))
        is_state(self, Blocked(1).freed(), Ready, ("ready", 0))
        is_state(self, Blocked(GREAT).freed(), Blocked, ("blocked", GREAT - 1))

    def test_cut_off(self):
        for need in (0, 3, 39):
            for left in (1, 8):
                is_state(self, Blocked(left).cut_off(need), Cut, ("cut", need))

    def test_leased(self):
        for fails in (0, 1, 19, GREAT):
            for number in (0, 7, 1000100000):
                is_state(self, Ready(fails).leased(number), Leased, ("leased", fails, number))

    def test_ended(self):
        is_state(self, Leased(0, 0).ended(0), Done, ("done", 0, 0, 0))
        is_state(self, Leased(2, 7).ended(1000000000), Done, ("done", 2, 7, 1000000000))

    def test_rested(self):
        for fails in (0, 1, 19):
            is_state(self, Resting(fails, 7).rested(), Ready, ("ready", fails))

    def test_failings_up_to_the_tries(self):
        for tries in range(1, 21):
            job = Job("roof", None, 0, 1, tries, 5, 2)
            for fails in range(tries - 1):
                rest = min(5 * 2 ** fails, 100000)
                is_state(self, Leased(fails, 3).failed(job, 11, "slip"), Resting, ("resting", fails + 1, 11 + rest))
            is_state(self, Leased(tries - 1, 3).failed(job, 11, "slip"), Broken, ("broken", tries, "slip"))

    def test_rests(self):
        job = Job("roof", None, 0, 1, 20, 7, 3)
        self.assertEqual(Leased(0, 0).failed(job, 0, "out").told(), ("resting", 1, 7))
        self.assertEqual(Leased(1, 0).failed(job, 0, "out").told(), ("resting", 2, 21))
        self.assertEqual(Leased(2, 0).failed(job, 100, "out").told(), ("resting", 3, 163))

    def test_rests_cut_off(self):
        job = Job("roof", None, 0, 1, 20, 1000, 4)
        for fails, rest in ((0, 1000), (3, 64000), (4, 100000), (5, 100000), (18, 100000)):
            told = Leased(fails, 0).failed(job, 1000000000, "out").told()
            self.assertEqual(told, ("resting", fails + 1, 1000000000 + rest))

    def test_no_rest(self):
        job = Job("roof", None, 0, 1, 3, 0, 4)
        is_state(self, Leased(0, 5).failed(job, 9, "slip"), Ready, ("ready", 1))
        is_state(self, Leased(1, 5).failed(job, 9, "slip"), Ready, ("ready", 2))
        is_state(self, Leased(2, 5).failed(job, 9, "slip"), Broken, ("broken", 3, "slip"))

    def test_each_step_that_suits_gives_another_and_the_state_stays(self):
        for kind, parts, word, over, fails in KINDS:
            for step, given in STEPS:
                if step in SUITS.get(word, ()):
                    state = kind(*parts)
                    behind = getattr(state, step)(*given)
                    self.assertIsInstance(behind, State)
                    self.assertIsNot(behind, state)
                    is_state(self, state, kind, (word,) + parts)
                    self.assertEqual(getattr(state, step)(*given).told(), behind.told())

    def test_each_step_that_does_not_suit(self):
        for kind, parts, word, over, fails in KINDS:
            for step, given in STEPS:
                if step not in SUITS.get(word, ()):
                    state = kind(*parts)
                    refused(self, BadStep, getattr(state, step), *given)
                    is_state(self, state, kind, (word,) + parts)


class Point32First(unittest.TestCase):
    def test_first_states(self):
        is_state(self, first_state(Job("z")), Ready, ("ready", 0))
        is_state(self, first_state(Job("z", [], 9, 9, 9, 9, 2)), Ready, ("ready", 0))
        for many in range(1, 9):
            is_state(self, first_state(Job("z", list("abcdefgh"[:many]))), Blocked, ("blocked", many))


class Point32Again(unittest.TestCase):
    def test_each_that_a_state_tells(self):
        for kind, parts, word, over, fails in KINDS:
            again = state_of(kind(*parts).told())
            is_state(self, again, kind, (word,) + parts)
            self.assertEqual(again.count_fails(), fails)

    def test_again_goes_on_alike(self):
        self.assertEqual(state_of(("leased", 2, 4)).failed(JOB, 9, "slip").told(), ("broken", 3, "slip"))
        self.assertEqual(state_of(("blocked", 1)).freed().told(), ("ready", 0))
        self.assertEqual(state_of(("resting", 1, 4)).rested().leased(8).ended(9).told(), ("done", 1, 8, 9))

    def bad(self, thing):
        refused(self, BadState, state_of, thing)

    def test_numbers_out_of_bounds(self):
        for kind, parts, word, over, fails in KINDS:
            for at, part in enumerate(parts):
                if word == "broken" and at == 1:
                    continue
                for thing in NO_WHOLES + (-1, -7, -GREAT, "1", "out"):
                    self.bad((word,) + parts[:at] + (thing,) + parts[at + 1:])
        self.bad(("blocked", 0))

    def test_what_is_no_why(self):
        for thing in NO_NAMES:
            self.bad(("broken", 1, thing))

    def test_parts_more_and_fewer(self):
        for kind, parts, word, over, fails in KINDS:
            told = (word,) + parts
            self.bad(told[:-1])
            self.bad(told + (0,))
            self.bad(told + (1,))
            self.bad(told + ("out",))
            self.bad(told + (None,))
            self.bad(told[1:])
            self.bad((word,))
            self.bad((told,))
            self.bad(told + told)

    def test_other_words(self):
        for kind, parts, word, over, fails in KINDS:
            for other in NO_TEXTS + ("", "Ready", word + " ", word.upper(), word[:-1], word + "s", "state", "open", [word]):
                self.bad((other,) + parts)

    def test_a_word_with_anothers_parts(self):
        # Words whose parts have one form can't be told apart by these.
        forms = {"blocked": "n", "cut": "n", "ready": "n", "leased": "nn", "resting": "nn", "done": "nnn", "broken": "nw"}
        for word in forms:
            for kind, parts, other, over, fails in KINDS:
                if forms[word] != forms[other]:
                    self.bad((word,) + parts)

    def test_what_is_no_tuple(self):
        for thing in NO_TEXTS + ("", "ready", "ready 0", (), [], {}):
            self.bad(thing)
        for kind, parts, word, over, fails in KINDS:
            self.bad([word] + list(parts))
            self.bad([(word,) + parts])
            self.bad({word: parts})
            self.bad(kind(*parts))
            self.bad(" ".join([str(part) for part in (word,) + parts]))

    def test_made_good(self):
        told = ["blocked", 0]
        self.bad(told)
        self.bad(tuple(told))
        told[1] = 1
        self.assertEqual(state_of(tuple(told)).told(), ("blocked", 1))


if __name__ == "__main__":
    unittest.main()
