import inspect
import unittest

from buildhall import words
from buildhall.words import MOST_NUMBER, MOST_TURN, is_among, is_name, is_whole, number_of, number_text, words_of
from tests.helper import NO_NAMES, NO_TEXTS, NO_WHOLES, shown

LETTERS = "abcdefghijklmnopqrstuvwxyz"


class Interface(unittest.TestCase):
    def test_arguments(self):
        told = {
            "is_whole": ["thing"], "is_name": ["thing"], "is_among": ["thing", "least", "most"],
            "number_text": ["number"], "number_of": ["word"], "words_of": ["line"],
        }
        for name, arguments in told.items():
            self.assertEqual(list(inspect.signature(getattr(words, name)).parameters), arguments, name)


class Point1WholeNumbers(unittest.TestCase):
    def test_the_most(self):
        self.assertEqual(MOST_TURN, 1000000000)
        self.assertEqual(MOST_NUMBER, 1000100000)
        self.assertIs(type(MOST_TURN), int)
        self.assertIs(type(MOST_NUMBER), int)

    def test_whole_numbers(self):
        for number in (0, 1, -1, 7, MOST_TURN, MOST_NUMBER, MOST_NUMBER + 1, 10 ** 30, -(10 ** 30), 10 ** 5000):
            self.assertIs(is_whole(number), True)

    def test_what_is_none(self):
        for thing in NO_WHOLES:
            self.assertIs(is_whole(thing), False, repr(thing))

    def test_among(self):
        for thing, least, most, answer in (
            (0, 0, 0, True), (0, 0, 9, True), (9, 0, 9, True), (5, 0, 9, True), (10, 0, 9, False), (-1, 0, 9, False),
            (1, 1, 1000, True), (1000, 1, 1000, True), (0, 1, 1000, False), (1001, 1, 1000, False),
            (-3, -3, -1, True), (-1, -3, -1, True), (-4, -3, -1, False), (0, -3, -1, False),
            (MOST_TURN, 0, MOST_TURN, True), (MOST_TURN + 1, 0, MOST_TURN, False),
            (MOST_NUMBER, 0, MOST_NUMBER, True), (MOST_NUMBER + 1, 0, MOST_NUMBER, False),
            (10 ** 5000, 0, MOST_NUMBER, False), (5, 6, 4, False),
        ):
            self.assertIs(is_among(thing, least, most), answer)

    def test_what_is_no_whole_number_is_among_none(self):
        for thing in NO_WHOLES:
            self.assertIs(is_among(thing, -5, 5), False, repr(thing))
            self.assertIs(is_among(thing, 0, 1), False, repr(thing))


class Point1Names(unittest.TestCase):
    def test_names(self):
        for thing in list(LETTERS) + ["ab", "roof", "job", "needs", "rank", LETTERS[:11], LETTERS[:12], LETTERS[14:]]:
            self.assertIs(is_name(thing), True, thing)
        self.assertIs(is_name("z" * 12), True)

    def test_what_is_no_name(self):
        for thing in NO_NAMES + (LETTERS[:13], LETTERS):
            self.assertIs(is_name(thing), False, shown(thing))

    def test_each_other_sign_in_each_spot(self):
        for sign in [chr(code) for code in range(32, 127)] + ["\n", "\t"]:
            for thing in (sign, sign + "ab", "a" + sign + "b", "ab" + sign):
                self.assertIs(is_name(thing), sign in LETTERS, repr(thing))


class Point2Numbers(unittest.TestCase):
    def test_written(self):
        for number, text in (
            (0, "0"), (1, "1"), (9, "9"), (10, "10"), (100, "100"), (907, "907"), (MOST_TURN, "1000000000"),
            (MOST_NUMBER, "1000100000"), (9999999999, "9999999999"), (10 ** 10, "10000000000"),
            (10 ** 30 + 7, "1" + "0" * 29 + "7"), (10 ** 3999, "1" + "0" * 3999),
        ):
            self.assertEqual(number_text(number), text)
            self.assertIs(type(number_text(number)), str)

    def test_read(self):
        for word, number in (
            ("0", 0), ("1", 1), ("9", 9), ("10", 10), ("100", 100), ("907", 907), ("1234567890", 1234567890),
            ("1000000000", MOST_TURN), ("1000100000", MOST_NUMBER), ("1000100001", MOST_NUMBER + 1),
            ("9999999999", 9999999999), ("999999999", 999999999),
        ):
            self.assertEqual(number_of(word), number)
            self.assertIs(type(number_of(word)), int)

    def test_each_figure(self):
        for figure in range(10):
            self.assertEqual(number_of(str(figure)), figure)
            self.assertEqual(number_of("1" + str(figure)), 10 + figure)

    def test_no_numbers(self):
        for word in (
            "", "00", "01", "007", "0000000000", "0123456789", "10000000000", "99999999999", "00000000001", "1" * 4000,
            "+1", "-1", "-0", "+0", " 1", "1 ", " ", "1 2", "1\n", "\n1", "\t1", "1\t", "1_0", "1.0", "1e3", "0x1",
            "1,0", "a", "1a", "a1", "one", "/", ":", "None", "True",
        ):
            self.assertIsNone(number_of(word), repr(word)[:50])

    def test_no_texts(self):
        for thing in NO_TEXTS + (["1"], ("1",), b"1", 12, {"1": 1}):
            self.assertIsNone(number_of(thing))

    def test_each_other_sign(self):
        for sign in [chr(code) for code in range(32, 127)] + ["\n", "\t"]:
            for word in (sign, sign + "5", "5" + sign + "5", "5" + sign):
                good = sign in "0123456789" and word != "05"
                self.assertEqual(number_of(word), int(word) if good else None, repr(word))

    def test_what_is_written_is_read(self):
        for number in list(range(0, 2000)) + [10 ** k + d for k in range(1, 10) for d in (-1, 0, 1)] + [10 ** 10 - 1]:
            self.assertEqual(number_of(number_text(number)), number)


class Point3Words(unittest.TestCase):
    def test_words(self):
        for line, told in (
            ("a", ["a"]), ("job roof", ["job", "roof"]), ("job roof rank 3", ["job", "roof", "rank", "3"]),
            ("a a a", ["a", "a", "a"]), ("7", ["7"]), ("-; ~ !", ["-;", "~", "!"]), ("A B", ["A", "B"]),
        ):
            self.assertEqual(words_of(line), told)

    def test_nothing_but_blanks_parts_words(self):
        for line, told in (
            ("a\tb", ["a\tb"]), ("a\nb c", ["a\nb", "c"]), ("\t", ["\t"]), ("\n", ["\n"]), ("a b\n", ["a", "b\n"]),
            ("\ta b\t", ["\ta", "b\t"]), ("a \t b", ["a", "\t", "b"]), ("a\n\nb", ["a\n\nb"]), ("a,b;c", ["a,b;c"]),
        ):
            self.assertEqual(words_of(line), told)

    def test_no_words(self):
        for line in ("", " ", "  ", "a  b", "a   b", " a", "a ", " a b", "a b ", "  a", "a  ", "a b  c", "a  b c"):
            self.assertIsNone(words_of(line), repr(line))

    def test_no_texts(self):
        for thing in NO_TEXTS + (["a", "b"], ("a b",), b"a b"):
            self.assertIsNone(words_of(thing))

    def test_many_words(self):
        self.assertEqual(words_of(" ".join(["ab"] * 500)), ["ab"] * 500)


class Point14Told(unittest.TestCase):
    def test_words_are_the_askers_own(self):
        first = words_of("a b")
        second = words_of("a b")
        first.append("c")
        self.assertEqual(second, ["a", "b"])
        self.assertEqual(words_of("a b"), ["a", "b"])

    def test_what_is_handed_in_stays(self):
        for ask in (is_whole, is_name, number_of, words_of):
            for thing, copy in (([1, "a"], [1, "a"]), ({"a": [1]}, {"a": [1]})):
                ask(thing)
                self.assertEqual(thing, copy)


if __name__ == "__main__":
    unittest.main()
