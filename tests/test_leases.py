import inspect
import unittest

from buildhall.errors import BadTerm, Busy, Gone
from buildhall.leases import Leases
from tests.helper import NO_NUMBERS, NO_TEXTS, NO_WHOLES, Draw, refused


def as_it_is(leases):
    return (leases.term, leases.given, leases.rows())


class Interface(unittest.TestCase):
    def test_arguments(self):
        for call, arguments in (
            (Leases, ["term"]), (Leases.take, ["self", "place", "worker", "turn"]), (Leases.of, ["self", "number"]),
            (Leases.renew, ["self", "number", "turn"]), (Leases.close, ["self", "number"]),
            (Leases.holder, ["self", "worker"]), (Leases.rows, ["self"]),
        ):
            self.assertEqual(list(inspect.signature(call).parameters), arguments)


class Point22Terms(unittest.TestCase):
    def test_terms(self):
        for term in (2, 3, 10, 999, 1000):
            leases = Leases(term)
            self.assertEqual(as_it_is(leases), (term, 0, []))
            self.assertEqual(leases.take(0, "a", 7), (0, 0, "a", 7, 7 + term))

    def test_no_terms(self):
        for term in (1, 0, -1, -2, -10, 1001, 1002, 10 ** 30, 10 ** 5000):
            refused(self, BadTerm, Leases, term)
        for term in NO_WHOLES + NO_TEXTS[7:] + ("2", "10", [10], (10,), {10: 10}, 10.0):
            refused(self, BadTerm, Leases, term)


class Point22Leases(unittest.TestCase):
    def test_numbers_from_nought(self):
        leases = Leases(10)
        for number in range(50):
            lease = leases.take(number * 2, "w" * (number + 1), number + 3)
            self.assertEqual(lease, (number, number * 2, "w" * (number + 1), number + 3, number + 13))
            self.assertIs(type(lease), tuple)
            self.assertEqual(leases.given, number + 1)
        self.assertEqual([row[0] for row in leases.rows()], list(range(50)))

    def test_numbers_go_on_behind_closed_ones(self):
        leases = Leases(2)
        for number in range(5):
            self.assertEqual(leases.take(1, "a", 0)[0], number)
            leases.close(number)
        self.assertEqual((leases.given, leases.rows()), (5, []))

    def test_of(self):
        leases = Leases(4)
        leases.take(3, "a", 5)
        leases.take(2, "b", 6)
        self.assertEqual(leases.of(0), (0, 3, "a", 5, 9))
        self.assertEqual(leases.of(1), (1, 2, "b", 6, 10))
        self.assertEqual(as_it_is(leases), (4, 2, [(0, 3, "a", 5, 9), (1, 2, "b", 6, 10)]))

    def test_renew(self):
        leases = Leases(4)
        leases.take(3, "a", 5)
        leases.take(2, "b", 5)
        self.assertEqual(leases.renew(0, 7), (0, 3, "a", 5, 11))
        self.assertEqual(leases.of(0), (0, 3, "a", 5, 11))
        self.assertEqual(leases.renew(0, 7), (0, 3, "a", 5, 11))
        self.assertEqual(leases.renew(0, 20), (0, 3, "a", 5, 24))
        self.assertEqual(leases.rows(), [(0, 3, "a", 5, 24), (1, 2, "b", 5, 9)])
        self.assertEqual(leases.given, 2)

    def test_close(self):
        leases = Leases(4)
        leases.take(3, "a", 5)
        leases.take(2, "b", 5)
        leases.take(1, "c", 5)
        leases.renew(1, 6)
        self.assertEqual(leases.close(1), (1, 2, "b", 5, 10))
        self.assertEqual(leases.rows(), [(0, 3, "a", 5, 9), (2, 1, "c", 5, 9)])
        self.assertEqual(leases.given, 3)

    def test_holder(self):
        leases = Leases(4)
        self.assertIsNone(leases.holder("a"))
        leases.take(3, "a", 5)
        leases.take(2, "b", 5)
        self.assertEqual(leases.holder("a"), (0, 3, "a", 5, 9))
        self.assertEqual(leases.holder("b"), (1, 2, "b", 5, 9))
        self.assertIsNone(leases.holder("c"))
        leases.renew(0, 8)
        self.assertEqual(leases.holder("a"), (0, 3, "a", 5, 12))
        leases.close(0)
        self.assertIsNone(leases.holder("a"))

    def test_rows_by_numbers(self):
        leases = Leases(4)
        for worker in "dacb":
            leases.take(0, worker, 0)
        leases.renew(2, 3)
        leases.renew(0, 3)
        leases.close(1)
        leases.take(0, "a", 3)
        self.assertEqual([row[0] for row in leases.rows()], [0, 2, 3, 4])
        self.assertEqual([row[2] for row in leases.rows()], ["d", "c", "b", "a"])

    def test_busy(self):
        leases = Leases(4)
        leases.take(3, "a", 5)
        before = as_it_is(leases)
        refused(self, Busy, leases.take, 2, "a", 5)
        refused(self, Busy, leases.take, 3, "a", 9)
        self.assertEqual(as_it_is(leases), before)
        self.assertEqual(leases.take(2, "b", 5)[0], 1)
        leases.close(0)
        self.assertEqual(leases.take(2, "a", 6), (2, 2, "a", 6, 10))
        refused(self, Busy, leases.take, 2, "a", 5)

    def test_nothing_else_is_looked_at(self):
        leases = Leases(4)
        self.assertEqual(leases.take(7, "Two Words", 10 ** 12), (0, 7, "Two Words", 10 ** 12, 10 ** 12 + 4))
        self.assertEqual(leases.take(7, "", 0), (1, 7, "", 0, 4))
        self.assertEqual(leases.renew(0, 3), (0, 7, "Two Words", 10 ** 12, 7))

    def test_gone_by_number(self):
        leases = Leases(4)
        for call in (leases.of, leases.close, lambda number: leases.renew(number, 3)):
            refused(self, Gone, call, 0)
        leases.take(1, "a", 0)
        leases.take(1, "b", 0)
        leases.take(1, "c", 0)
        leases.close(1)
        before = as_it_is(leases)
        for call in (leases.of, leases.close, lambda number: leases.renew(number, 3)):
            for number in (1, 3, 4, 100, -1, -2, -3):
                refused(self, Gone, call, number)
                self.assertEqual(as_it_is(leases), before)

    def test_gone_of_any_kind(self):
        leases = Leases(4)
        leases.take(1, "a", 0)
        leases.take(1, "b", 0)
        before = as_it_is(leases)
        for call in (leases.of, leases.close, lambda number: leases.renew(number, 3)):
            for thing in NO_NUMBERS:
                refused(self, Gone, call, thing)
                self.assertEqual(as_it_is(leases), before)
        self.assertEqual(leases.close(1)[0], 1)

    def test_drawn_deeds(self):
        draw = Draw(22)
        leases = Leases(6)
        model = {}
        given = 0
        for turn in range(3000):
            worker = draw.pick("abcdef")
            number = draw.below(given + 2)
            deed = draw.below(4)
            busy = [row for row in model.values() if row[2] == worker]
            self.assertEqual(leases.holder(worker), busy[0] if busy else None)
            if deed == 0 and busy:
                refused(self, Busy, leases.take, 1, worker, turn)
            elif deed == 0:
                self.assertEqual(leases.take(turn % 7, worker, turn), (given, turn % 7, worker, turn, turn + 6))
                model[given] = (given, turn % 7, worker, turn, turn + 6)
                given += 1
            elif deed < 3:
                number = draw.pick(sorted(model) + [number])
                call = leases.close if deed == 1 else lambda asked: leases.renew(asked, turn)
                if number not in model:
                    refused(self, Gone, call, number)
                elif deed == 1:
                    self.assertEqual(call(number), model.pop(number))
                else:
                    model[number] = model[number][:4] + (turn + 6,)
                    self.assertEqual(call(number), model[number])
            self.assertEqual(as_it_is(leases), (6, given, [model[key] for key in sorted(model)]))


class Point14Told(unittest.TestCase):
    def test_rows_are_the_askers_own(self):
        leases = Leases(4)
        leases.take(1, "a", 0)
        told = leases.rows()
        leases.rows().clear()
        leases.renew(0, 2)
        leases.take(1, "b", 0)
        self.assertEqual(told, [(0, 1, "a", 0, 4)])
        told.clear()
        self.assertEqual(leases.rows(), [(0, 1, "a", 0, 6), (1, 1, "b", 0, 4)])

    def test_two_keep_apart(self):
        first = Leases(4)
        second = Leases(5)
        first.take(1, "a", 0)
        self.assertEqual(as_it_is(second), (5, 0, []))
        self.assertEqual(second.take(1, "a", 0), (0, 1, "a", 0, 5))


if __name__ == "__main__":
    unittest.main()
