import unittest

from buildhall import errors
from tests.helper import ALL_REFUSALS

OF_PLACES = ("BadLine", "BadBook", "BadShot", "BadEvent")
OF_TEXTS = [word for word in ALL_REFUSALS if word not in OF_PLACES + ("NoJob", "Ring")]


def refusal(word):
    return getattr(errors, word)


class Point14Classes(unittest.TestCase):
    def test_the_base_is_a_value_error(self):
        self.assertEqual(errors.HallError.__bases__, (ValueError,))

    def test_each_refusal_stands_right_under_the_base(self):
        for word in ALL_REFUSALS:
            self.assertEqual(refusal(word).__bases__, (errors.HallError,), word)
            self.assertEqual(refusal(word).__name__, word)

    def test_none_stands_under_another_one(self):
        for word in ALL_REFUSALS:
            for other in ALL_REFUSALS:
                self.assertEqual(issubclass(refusal(word), refusal(other)), word == other, (word, other))

    def test_there_are_no_others(self):
        found = [word for word in vars(errors) if isinstance(refusal(word), type)]
        self.assertEqual(sorted(found), sorted(ALL_REFUSALS + ("HallError",)))


class Fields(unittest.TestCase):
    def test_those_made_of_a_text(self):
        self.assertEqual(len(OF_TEXTS), 13)
        for word in OF_TEXTS + ["HallError"]:
            error = refusal(word)("so it is")
            self.assertEqual(str(error), "so it is", word)

    def test_those_with_a_place(self):
        for word in OF_PLACES:
            for place in (0, 3, 1000):
                error = refusal(word)(place)
                self.assertEqual(error.place, place, word)
                self.assertIs(type(error.place), int)
                self.assertEqual(refusal(word)(place=place).place, place)
                self.assertIsInstance(str(error), str)

    def test_no_job_tells_what_was_asked_for(self):
        for name in ("roof", "", "no name", None, 7, 10 ** 5000, ["roof"], ("a", 1), {"a": 1}):
            self.assertEqual(errors.NoJob(name).name, name)
        self.assertEqual(errors.NoJob(name="roof").name, "roof")

    def test_a_ring_tells_names(self):
        self.assertEqual(errors.Ring(["a", "b"]).names, ["a", "b"])
        self.assertEqual(errors.Ring(names=["a"]).names, ["a"])
        self.assertIn("b", str(errors.Ring(["a", "b"])))

    def test_the_names_of_a_ring_are_its_own(self):
        names = ["a", "b"]
        error = errors.Ring(names)
        names.append("c")
        self.assertEqual(error.names, ["a", "b"])
        error.names.append("d")
        self.assertEqual(names, ["a", "b", "c"])
        self.assertNotIn(names, list(error.args))

    def test_errors_keep_their_fields_apart(self):
        first = errors.BadLine(1)
        second = errors.BadLine(2)
        self.assertEqual((first.place, second.place), (1, 2))


if __name__ == "__main__":
    unittest.main()
