"""Point 2: how many settings, the neighbours of one, the steps between two."""

import unittest

from tests.helpers import (MANY_FIGURES, SIXTY_FIGURES, all_settings, is_step, large_wheels,
                           small_wheels)
from wheelways.wheels import apart, near, settings


def steps_from(start, wheels):
    """The least steps from a setting to each, by a search over all of them."""
    told = {tuple(start): 0}
    queue = [start]
    everything = all_settings(wheels)
    for here in queue:
        for there in everything:
            if tuple(there) not in told and is_step(here, there):
                told[tuple(there)] = told[tuple(here)] + 1
                queue.append(there)
    return told


class Settings(unittest.TestCase):
    def test_of_no_wheels(self):
        self.assertEqual(settings([]), 1)

    def test_of_wheels_of_size_one(self):
        self.assertEqual(settings([1]), 1)
        self.assertEqual(settings([1] * 1000), 1)
        self.assertEqual(settings([1, 7, 1]), 7)

    def test_some(self):
        self.assertEqual(settings([5]), 5)
        self.assertEqual(settings([2, 3]), 6)
        self.assertEqual(settings([3, 4, 5]), 60)

    def test_against_all_of_them(self):
        for wheels in small_wheels():
            with self.subTest(wheels=wheels):
                self.assertEqual(settings(wheels), len(all_settings(wheels)))

    def test_large(self):
        self.assertEqual(settings([2] * 60), 2 ** 60)
        self.assertEqual(settings([10 ** 60] * 60), 10 ** 3600)
        self.assertEqual(settings([SIXTY_FIGURES, 1, MANY_FIGURES]), SIXTY_FIGURES * MANY_FIGURES)

    def test_is_a_plain_number(self):
        for wheels in ([], [1], [2, 3]):
            self.assertIs(type(settings(wheels)), int)


class Near(unittest.TestCase):
    def test_none(self):
        self.assertEqual(near([], []), [])
        self.assertEqual(near([1], [0]), [])
        self.assertEqual(near([1, 1, 1], [0, 0, 0]), [])

    def test_within(self):
        self.assertEqual(near([3, 3], [1, 1]), [[0, 1], [1, 0], [1, 2], [2, 1]])
        self.assertEqual(near([9], [4]), [[3], [5]])

    def test_at_the_ends(self):
        self.assertEqual(near([2], [0]), [[1]])
        self.assertEqual(near([2], [1]), [[0]])
        self.assertEqual(near([5], [0]), [[1]])
        self.assertEqual(near([5], [4]), [[3]])
        self.assertEqual(near([3, 1, 4], [2, 0, 0]), [[1, 0, 0], [2, 0, 1]])
        self.assertEqual(near([3, 3], [0, 0]), [[0, 1], [1, 0]])
        self.assertEqual(near([3, 3], [2, 2]), [[1, 2], [2, 1]])

    def test_against_all_settings(self):
        for wheels in small_wheels():
            everything = all_settings(wheels)
            for setting in everything:
                due = [other for other in everything if is_step(setting, other)]
                with self.subTest(wheels=wheels, setting=setting):
                    self.assertEqual(near(wheels, setting), due)

    def test_large(self):
        last = SIXTY_FIGURES - 1
        wheels = [SIXTY_FIGURES, 1, MANY_FIGURES]
        self.assertEqual(near(wheels, [last, 0, 10 ** 4000]), [
            [last - 1, 0, 10 ** 4000], [last, 0, 10 ** 4000 - 1], [last, 0, 10 ** 4000 + 1]])

    def test_of_many_wheels_is_in_order(self):
        found = near([3] * 60, [1] * 60)
        self.assertEqual(len(found), 120)
        self.assertEqual(found, sorted(found))

    def test_is_lists_in_a_list(self):
        found = near([3, 3], [1, 1])
        self.assertIs(type(found), list)
        self.assertEqual({type(setting) for setting in found}, {list})
        self.assertEqual({type(place) for setting in found for place in setting}, {int})


class Apart(unittest.TestCase):
    def test_of_no_wheels(self):
        self.assertEqual(apart([], [], []), 0)

    def test_some(self):
        self.assertEqual(apart([5], [4], [1]), 3)
        self.assertEqual(apart([3, 4, 5], [0, 0, 0], [2, 3, 4]), 9)
        self.assertEqual(apart([3, 4, 5], [2, 0, 3], [0, 3, 3]), 5)

    def test_a_wheel_does_not_go_around(self):
        self.assertEqual(apart([10], [0], [9]), 9)
        self.assertEqual(apart([10, 10], [9, 0], [0, 9]), 18)

    def test_to_itself(self):
        for wheels in small_wheels():
            for setting in all_settings(wheels):
                self.assertEqual(apart(wheels, setting, list(setting)), 0)
                self.assertEqual(apart(wheels, setting, setting), 0)

    def test_against_a_search(self):
        for wheels in small_wheels():
            everything = all_settings(wheels)
            if len(everything) > 36:
                continue
            for one in everything:
                told = steps_from(one, wheels)
                for other in everything:
                    with self.subTest(wheels=wheels, one=one, other=other):
                        self.assertEqual(apart(wheels, one, other), told[tuple(other)])
                        self.assertEqual(apart(wheels, other, one), told[tuple(other)])

    def test_large(self):
        for wheels in large_wheels():
            first = [0 for size in wheels]
            last = [size - 1 for size in wheels]
            middle = [size // 2 for size in wheels]
            self.assertEqual(apart(wheels, first, last), sum(wheels) - len(wheels))
            self.assertEqual(apart(wheels, last, first), sum(wheels) - len(wheels))
            self.assertEqual(apart(wheels, first, middle), sum(middle))
            self.assertEqual(apart(wheels, middle, middle), 0)


if __name__ == "__main__":
    unittest.main()
