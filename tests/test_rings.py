import inspect
import itertools
import unittest

from buildhall import rings
from buildhall.rings import order_of, ring_of
from tests.helper import Draw


def is_order(needs, order):
    """By point 12, step by step, and without the program's own way of finding it."""
    ahead = []
    for place in order:
        free = [other for other in range(len(needs)) if other not in ahead and set(needs[other]) <= set(ahead)]
        if not free or place != min(free):
            return False
        ahead.append(place)
    return sorted(order) == list(range(len(needs)))


def reaches_itself(needs, place):
    seen = set()
    left = list(needs[place])
    while left:
        other = left.pop()
        if other not in seen:
            seen.add(other)
            left.extend(needs[other])
    return place in seen


def held(test, needs):
    """Holds both answers of some rows against points 11 and 12."""
    copy = [list(row) for row in needs]
    ring = ring_of(needs)
    order = order_of(needs)
    test.assertEqual(needs, copy)
    if any(reaches_itself(needs, place) for place in range(len(needs))):
        test.assertIsNone(order, needs)
        test.assertIs(type(ring), list)
        test.assertGreaterEqual(len(ring), 1)
        test.assertEqual(len(set(ring)), len(ring), needs)
        for at, place in enumerate(ring):
            test.assertIn(ring[(at + 1) % len(ring)], needs[place], needs)
    else:
        test.assertIsNone(ring, needs)
        test.assertIs(type(order), list)
        test.assertTrue(is_order(needs, order), (needs, order))


class Interface(unittest.TestCase):
    def test_arguments(self):
        self.assertEqual(list(inspect.signature(rings.ring_of).parameters), ["needs"])
        self.assertEqual(list(inspect.signature(rings.order_of).parameters), ["needs"])


class Point11Rings(unittest.TestCase):
    def test_no_rows(self):
        self.assertIsNone(ring_of([]))

    def test_no_ring(self):
        for needs in ([[]], [[], []], [[1], []], [[], [0]], [[1, 2], [2], []], [[], [0, 0], [1, 0, 1]]):
            self.assertIsNone(ring_of(needs), needs)

    def test_one_place_alone(self):
        self.assertEqual(ring_of([[0]]), [0])
        self.assertEqual(ring_of([[0, 0]]), [0])
        self.assertEqual(ring_of([[], [1], []]), [1])
        self.assertEqual(ring_of([[2], [0], [2]]), [2])

    def test_two_places(self):
        self.assertEqual(sorted(ring_of([[1], [0]])), [0, 1])
        self.assertEqual(sorted(ring_of([[3], [], [1], [0, 1]])), [0, 3])
        self.assertEqual(sorted(ring_of([[1, 1], [0, 0]])), [0, 1])

    def test_what_only_needs_a_ring_is_none_of_it(self):
        self.assertEqual(sorted(ring_of([[1], [2], [3], [2]])), [2, 3])
        self.assertEqual(sorted(ring_of([[], [0, 3], [3], [4], [3]])), [3, 4])

    def test_what_a_ring_needs_is_none_of_it(self):
        self.assertEqual(sorted(ring_of([[1, 2], [0, 2], []])), [0, 1])

    def test_all_places(self):
        for many in (1, 2, 3, 7, 39, 40):
            needs = [[(place + 1) % many] for place in range(many)]
            self.assertEqual(sorted(ring_of(needs)), list(range(many)))
            held(self, needs)
            held(self, [[(place - 1) % many] for place in range(many)])

    def test_each_of_three_places_with_whatever_needs(self):
        rows = [[], [0], [1], [2], [0, 1], [1, 2], [2, 0], [0, 1, 2], [1, 1]]
        for needs in itertools.product(rows, repeat=3):
            held(self, [list(row) for row in needs])


class Point12Orders(unittest.TestCase):
    def test_no_rows(self):
        self.assertEqual(order_of([]), [])

    def test_orders(self):
        for needs, order in (
            ([[]], [0]),
            ([[], []], [0, 1]),
            ([[1], []], [1, 0]),
            ([[2], [], []], [1, 2, 0]),
            ([[3], [], [], []], [1, 2, 3, 0]),
            ([[1], [], [], [0]], [1, 0, 2, 3]),
            ([[4], [4], [], [0], []], [2, 4, 0, 1, 3]),
            ([[1, 1], [2, 2], []], [2, 1, 0]),
        ):
            self.assertEqual(order_of(needs), order)

    def test_the_least_place_at_each_step(self):
        # The order goes back to place 0 as soon as that is free, ahead of 3 and 4.
        self.assertEqual(order_of([[2], [], [], [], []]), [1, 2, 0, 3, 4])

    def test_with_a_ring_there_is_none(self):
        for needs in ([[0]], [[1], [0]], [[], [1]], [[], [], [3], [2]], [[1], [2], [1], []]):
            self.assertIsNone(order_of(needs))

    def test_a_long_row(self):
        self.assertEqual(order_of([[place + 1] for place in range(39)] + [[]]), list(range(39, -1, -1)))
        self.assertEqual(order_of([[]] + [[place] for place in range(39)]), list(range(40)))

    def test_drawn_rows(self):
        draw = Draw(12)
        for turn in range(400):
            many = draw.among(1, 40)
            rows = []
            for place in range(many):
                # Half of the rows need what stands higher alone, so that there is no ring.
                least = 0 if turn % 2 else place + 1
                rows.append([draw.among(least, many - 1) for need in range(draw.below(4)) if least < many])
            held(self, rows)

    def test_forty_rows_that_need_all_behind_them(self):
        needs = [list(range(place + 1, 40)) for place in range(40)]
        self.assertEqual(order_of(needs), list(range(39, -1, -1)))
        self.assertIsNone(ring_of(needs))
        needs[39].append(0)
        held(self, needs)


class Point14Told(unittest.TestCase):
    def test_told_lists_are_the_askers_own(self):
        needs = [[1], [0], []]
        ring = ring_of(needs)
        copy = list(ring)
        ring_of(needs).clear()
        needs.clear()
        self.assertEqual(ring, copy)
        rows = [[1], []]
        order = order_of(rows)
        order_of(rows).append(7)
        rows.clear()
        self.assertEqual(order, [1, 0])
        self.assertEqual(order_of([[1], []]), [1, 0])

    def test_made_good(self):
        needs = [[1], [0]]
        self.assertIsNone(order_of(needs))
        needs[1].clear()
        self.assertEqual(order_of(needs), [1, 0])
        self.assertIsNone(ring_of(needs))


if __name__ == "__main__":
    unittest.main()
