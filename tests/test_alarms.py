import inspect
import itertools
import unittest

from buildhall.alarms import Alarms
from buildhall.errors import NoAlarm
from tests.helper import Draw, refused


def filled(rows):
    alarms = Alarms()
    for row in rows:
        alarms.put(*row)
    return alarms


class Interface(unittest.TestCase):
    def test_arguments(self):
        for call, arguments in (
            (Alarms, []), (Alarms.put, ["self", "turn", "sort", "number"]),
            (Alarms.drop, ["self", "turn", "sort", "number"]), (Alarms.first, ["self"]), (Alarms.take, ["self"]),
            (Alarms.rows, ["self"]), (Alarms.many, ["self"]),
        ):
            self.assertEqual(list(inspect.signature(call).parameters), arguments)


class Point21Alarms(unittest.TestCase):
    def test_none_at_first(self):
        alarms = Alarms()
        self.assertEqual((alarms.rows(), alarms.many(), alarms.first()), ([], 0, None))
        refused(self, NoAlarm, alarms.take)
        refused(self, NoAlarm, alarms.drop, 0, 0, 0)
        self.assertEqual((alarms.rows(), alarms.many(), alarms.first()), ([], 0, None))

    def test_put_and_take(self):
        alarms = Alarms()
        self.assertIsNone(alarms.put(5, 0, 2))
        self.assertEqual(alarms.first(), (5, 0, 2))
        self.assertEqual(alarms.rows(), [(5, 0, 2)])
        self.assertEqual(alarms.many(), 1)
        taken = alarms.take()
        self.assertEqual(taken, (5, 0, 2))
        self.assertIs(type(taken), tuple)
        self.assertEqual(alarms.many(), 0)
        refused(self, NoAlarm, alarms.take)

    def test_the_order_of_tuples(self):
        rows = [(1, 0, 9), (1, 1, 0), (2, 0, 0), (2, 0, 1), (2, 1, 0), (10, 0, 0)]
        for order in itertools.permutations(rows):
            alarms = filled(order)
            self.assertEqual(alarms.rows(), rows)
            self.assertEqual(alarms.first(), (1, 0, 9))
        alarms = filled(rows[::-1])
        self.assertEqual([alarms.take() for row in rows], rows)
        self.assertIsNone(alarms.first())

    def test_the_first_stays(self):
        alarms = filled([(3, 0, 0), (2, 0, 0)])
        self.assertEqual(alarms.first(), (2, 0, 0))
        self.assertEqual(alarms.first(), (2, 0, 0))
        self.assertEqual(alarms.many(), 2)

    def test_alike_ones_twice(self):
        alarms = filled([(4, 1, 2), (4, 1, 2), (4, 1, 1), (4, 1, 2)])
        self.assertEqual(alarms.many(), 4)
        self.assertEqual(alarms.rows(), [(4, 1, 1), (4, 1, 2), (4, 1, 2), (4, 1, 2)])
        self.assertIsNone(alarms.drop(4, 1, 2))
        self.assertEqual(alarms.rows(), [(4, 1, 1), (4, 1, 2), (4, 1, 2)])
        alarms.drop(4, 1, 2)
        self.assertEqual(alarms.take(), (4, 1, 1))
        self.assertEqual(alarms.take(), (4, 1, 2))
        refused(self, NoAlarm, alarms.drop, 4, 1, 2)
        self.assertEqual(alarms.many(), 0)

    def test_one_that_is_not_there(self):
        rows = [(4, 0, 2), (4, 1, 2), (7, 0, 0)]
        alarms = filled(rows)
        for turn, sort, number in (
            (4, 0, 1), (4, 0, 3), (4, 1, 0), (4, 1, 3), (3, 0, 2), (5, 0, 2), (8, 0, 0), (7, 1, 0), (0, 0, 0), (9, 1, 9),
        ):
            refused(self, NoAlarm, alarms.drop, turn, sort, number)
            self.assertEqual(alarms.rows(), rows)
        alarms.drop(4, 1, 2)
        refused(self, NoAlarm, alarms.drop, 4, 1, 2)
        alarms.put(4, 1, 2)
        alarms.drop(4, 1, 2)
        self.assertEqual(alarms.rows(), [(4, 0, 2), (7, 0, 0)])

    def test_nothing_is_looked_at(self):
        rows = [(-5, 7, -1), (0, -1, 0), (10 ** 30, 0, 10 ** 30)]
        alarms = filled(rows[::-1])
        self.assertEqual(alarms.rows(), rows)

    def test_drawn_deeds(self):
        draw = Draw(21)
        alarms = Alarms()
        model = []
        for turn in range(4000):
            row = (draw.below(6), draw.below(2), draw.below(4))
            deed = draw.below(5)
            if deed < 2:
                alarms.put(*row)
                model.append(row)
            elif deed < 4 and row in model:
                alarms.drop(*row)
                model.remove(row)
            elif deed < 4:
                refused(self, NoAlarm, alarms.drop, *row)
            elif model:
                self.assertEqual(alarms.take(), min(model))
                model.remove(min(model))
            else:
                refused(self, NoAlarm, alarms.take)
            self.assertEqual(alarms.rows(), sorted(model))
            self.assertEqual(alarms.many(), len(model))
            self.assertEqual(alarms.first(), min(model, default=None))


class Point14Told(unittest.TestCase):
    def test_rows_are_the_askers_own(self):
        alarms = filled([(4, 0, 2), (5, 0, 2)])
        told = alarms.rows()
        alarms.rows().clear()
        alarms.take()
        alarms.put(1, 1, 1)
        self.assertEqual(told, [(4, 0, 2), (5, 0, 2)])
        told.append((0, 0, 0))
        self.assertEqual(alarms.rows(), [(1, 1, 1), (5, 0, 2)])
        self.assertEqual(alarms.first(), (1, 1, 1))

    def test_two_keep_apart(self):
        first = filled([(4, 0, 2)])
        second = Alarms()
        self.assertEqual(second.many(), 0)
        second.put(1, 0, 0)
        self.assertEqual(first.rows(), [(4, 0, 2)])


if __name__ == "__main__":
    unittest.main()
