import inspect
import unittest

from buildhall import waits
from buildhall.jobs import Job
from buildhall.waits import MOST_WAIT, rest_sum, wait_after


def job(wait, grow, tries=1):
    return Job("a", None, 0, 1, tries, wait, grow)


class Interface(unittest.TestCase):
    def test_names(self):
        self.assertEqual(MOST_WAIT, 100000)
        self.assertEqual(list(inspect.signature(waits.wait_after).parameters), ["job", "fails"])
        self.assertEqual(list(inspect.signature(waits.rest_sum).parameters), ["job"])


class Point20Rests(unittest.TestCase):
    def test_told_ones(self):
        for wait, grow, rests in (
            (0, 1, [0, 0, 0]), (0, 4, [0, 0, 0]), (1, 1, [1, 1, 1, 1]), (5, 1, [5, 5, 5]), (1, 2, [1, 2, 4, 8, 16]),
            (3, 3, [3, 9, 27, 81]), (7, 4, [7, 28, 112]), (1000, 1, [1000, 1000]),
            (1000, 4, [1000, 4000, 16000, 64000, 100000, 100000]), (1000, 3, [1000, 3000, 9000, 27000, 81000, 100000]),
            (625, 2, [625, 1250, 2500, 5000, 10000, 20000, 40000, 80000, 100000]),
            (500, 2, [500, 1000, 2000, 4000, 8000, 16000, 32000, 64000, 100000]),
            (25, 4, [25, 100, 400, 1600, 6400, 25600, 100000, 100000]),
        ):
            self.assertEqual([wait_after(job(wait, grow, 20), at + 1) for at in range(len(rests))], rests)

    def test_just_at_the_most(self):
        self.assertEqual(wait_after(job(1000, 4, 20), 4), 64000)
        self.assertEqual(wait_after(job(1000, 4, 20), 5), 100000)
        self.assertEqual(wait_after(job(100, 2, 20), 10), 51200)
        self.assertEqual(wait_after(job(100, 2, 20), 11), 100000)

    def test_all_waits_and_grows(self):
        for wait in list(range(0, 30)) + [99, 100, 390, 391, 500, 625, 781, 782, 999, 1000]:
            for grow in (1, 2, 3, 4):
                for fails in range(1, 45):
                    self.assertEqual(wait_after(job(wait, grow, 20), fails), min(wait * grow ** (fails - 1), 100000))

    def test_beyond_the_tries(self):
        self.assertEqual(wait_after(job(3, 2, 1), 1), 3)
        self.assertEqual(wait_after(job(3, 2, 1), 2), 6)
        self.assertEqual(wait_after(job(3, 2, 4), 9), 768)
        for fails in (1000, 10 ** 9, 10 ** 30):
            self.assertEqual(wait_after(job(3, 2, 4), fails), 100000)
            self.assertEqual(wait_after(job(3, 1, 4), fails), 3)
            self.assertEqual(wait_after(job(0, 4, 4), fails), 0)

    def test_sums(self):
        for wait, grow, tries, total in (
            (5, 1, 1, 0), (1000, 4, 1, 0), (5, 1, 2, 5), (5, 2, 2, 5), (5, 2, 3, 15), (5, 2, 4, 35), (5, 1, 20, 95),
            (0, 4, 20, 0), (1000, 4, 5, 85000), (1000, 4, 6, 185000), (1000, 4, 20, 85000 + 15 * 100000),
        ):
            self.assertEqual(rest_sum(job(wait, grow, tries)), total)

    def test_sums_of_all(self):
        for wait in (0, 1, 2, 7, 100, 1000):
            for grow in (1, 2, 3, 4):
                for tries in range(1, 21):
                    total = sum(min(wait * grow ** at, 100000) for at in range(tries - 1))
                    self.assertEqual(rest_sum(job(wait, grow, tries)), total)

    def test_the_job_stays(self):
        one = job(5, 3, 4)
        rest_sum(one)
        wait_after(one, 3)
        self.assertEqual((one.wait, one.grow, one.tries), (5, 3, 4))


if __name__ == "__main__":
    unittest.main()
