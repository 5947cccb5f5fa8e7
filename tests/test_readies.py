import inspect
import itertools
import unittest

from buildhall.readies import Readies
from tests.helper import Draw


def filled(rows):
    readies = Readies()
    for row in rows:
        readies.put(*row)
    return readies


class Interface(unittest.TestCase):
    def test_arguments(self):
        for call, arguments in (
            (Readies, []), (Readies.put, ["self", "place", "rank", "turn"]), (Readies.take, ["self"]),
            (Readies.drop, ["self", "place"]), (Readies.rows, ["self"]), (Readies.many, ["self"]),
        ):
            self.assertEqual(list(inspect.signature(call).parameters), arguments)


class Point33Readies(unittest.TestCase):
    def test_none(self):
        readies = Readies()
        self.assertIsNone(readies.take())
        self.assertEqual((readies.rows(), readies.many()), ([], 0))

    def test_one(self):
        readies = Readies()
        self.assertIsNone(readies.put(3, 5, 7))
        self.assertEqual((readies.rows(), readies.many()), ([(3, 5, 7)], 1))
        self.assertEqual(readies.take(), 3)
        self.assertEqual((readies.rows(), readies.many()), ([], 0))
        self.assertIsNone(readies.take())

    def test_place_nought(self):
        readies = filled([(0, 0, 0)])
        self.assertEqual(readies.take(), 0)
        self.assertIsNone(readies.take())

    def test_the_greatest_rank(self):
        self.assertEqual(filled([(0, 1, 0), (1, 3, 9), (2, 2, 0)]).take(), 1)

    def test_then_the_least_turn(self):
        self.assertEqual(filled([(0, 3, 9), (1, 3, 4), (2, 2, 0), (3, 3, 5)]).take(), 1)

    def test_then_the_least_place(self):
        self.assertEqual(filled([(7, 3, 4), (5, 3, 4), (2, 2, 0), (6, 3, 4)]).take(), 5)

    def test_all_orders(self):
        rows = [(4, 9, 1), (2, 9, 5), (3, 9, 5), (0, 0, 0), (1, 0, 0), (5, 0, 7)]
        for order in itertools.permutations(rows):
            readies = filled(order)
            self.assertEqual(readies.rows(), rows)
            self.assertEqual(readies.many(), 6)
            self.assertEqual([readies.take() for row in rows], [row[0] for row in rows])
            self.assertIsNone(readies.take())

    def test_drop(self):
        readies = filled([(4, 9, 1), (2, 9, 5), (0, 0, 0)])
        self.assertIsNone(readies.drop(4))
        self.assertEqual(readies.rows(), [(2, 9, 5), (0, 0, 0)])
        readies.drop(0)
        self.assertEqual((readies.take(), readies.take()), (2, None))

    def test_put_again(self):
        readies = filled([(4, 9, 1)])
        readies.drop(4)
        readies.put(4, 2, 8)
        self.assertEqual(readies.rows(), [(4, 2, 8)])
        readies.take()
        readies.put(4, 3, 9)
        self.assertEqual(readies.rows(), [(4, 3, 9)])

    def test_drawn_deeds(self):
        draw = Draw(33)
        readies = Readies()
        model = {}
        for turn in range(4000):
            place = draw.below(12)
            deed = draw.below(4)
            if deed < 2 and place not in model:
                model[place] = (place, draw.below(4), draw.below(4))
                readies.put(*model[place])
            elif deed == 2 and place in model:
                readies.drop(place)
                model.pop(place)
            elif deed == 3:
                best = None
                for row in model.values():
                    if best is None or row[1] > best[1] or row[1] == best[1] and (row[2], row[0]) < (best[2], best[0]):
                        best = row
                self.assertEqual(readies.take(), None if best is None else model.pop(best[0])[0])
            self.assertEqual(readies.many(), len(model))
            self.assertEqual(sorted(readies.rows()), sorted(model.values()))


class Point14Told(unittest.TestCase):
    def test_rows_are_the_askers_own(self):
        readies = filled([(4, 9, 1), (2, 9, 5)])
        told = readies.rows()
        readies.rows().clear()
        readies.take()
        readies.put(7, 0, 0)
        self.assertEqual(told, [(4, 9, 1), (2, 9, 5)])
        told.clear()
        self.assertEqual(readies.rows(), [(2, 9, 5), (7, 0, 0)])

    def test_two_keep_apart(self):
        first = filled([(4, 9, 1)])
        self.assertEqual(Readies().many(), 0)
        self.assertEqual(first.many(), 1)


if __name__ == "__main__":
    unittest.main()
