"""Point 3: the way through all settings, and the numbers on it."""

import unittest

from tests.helpers import (MANY_FIGURES, SIXTY_FIGURES, all_settings, is_step, large_wheels,
                           small_wheels, some_numbers)
from wheelways.forth import number_of, setting_of
from wheelways.wheels import settings


def way(wheels):
    return [setting_of(wheels, number) for number in range(settings(wheels))]


class SmallWheels(unittest.TestCase):
    def test_of_no_wheels(self):
        self.assertEqual(setting_of([], 0), [])
        self.assertEqual(number_of([], []), 0)

    def test_of_one_wheel(self):
        # With one wheel there is no other way that begins at 0.
        self.assertEqual(way([1]), [[0]])
        self.assertEqual(way([5]), [[0], [1], [2], [3], [4]])

    def test_all_settings_each_once(self):
        for wheels in small_wheels():
            with self.subTest(wheels=wheels):
                self.assertEqual(sorted(way(wheels)), all_settings(wheels))

    def test_the_first_one_is_of_noughts_alone(self):
        for wheels in small_wheels():
            with self.subTest(wheels=wheels):
                self.assertEqual(setting_of(wheels, 0), [0] * len(wheels))
                self.assertEqual(number_of(wheels, [0] * len(wheels)), 0)

    def test_each_further_one_is_a_neighbour(self):
        for wheels in small_wheels():
            settings_told = way(wheels)
            for ahead, setting in zip(settings_told, settings_told[1:]):
                with self.subTest(wheels=wheels, ahead=ahead, setting=setting):
                    self.assertTrue(is_step(ahead, setting))

    def test_the_number_of_each_setting_is_it_again(self):
        for wheels in small_wheels():
            for number, setting in enumerate(way(wheels)):
                with self.subTest(wheels=wheels, setting=setting):
                    self.assertEqual(number_of(wheels, setting), number)

    def test_the_setting_of_each_number_is_it_again(self):
        for wheels in small_wheels():
            for setting in all_settings(wheels):
                with self.subTest(wheels=wheels, setting=setting):
                    self.assertEqual(setting_of(wheels, number_of(wheels, setting)), setting)

    def test_the_same_told_again(self):
        ways = [way(wheels) for wheels in small_wheels()]
        self.assertEqual([way(wheels) for wheels in small_wheels()], ways)

    def test_kinds(self):
        for wheels in ([], [1], [2, 3]):
            setting = setting_of(wheels, settings(wheels) - 1)
            self.assertIs(type(setting), list)
            self.assertTrue(all(type(place) is int for place in setting))
            self.assertIs(type(number_of(wheels, setting)), int)


class LargeWheels(unittest.TestCase):
    def test_numbers_again(self):
        for wheels in large_wheels():
            for number in some_numbers(settings(wheels)):
                setting = setting_of(wheels, number)
                self.assertEqual(len(setting), len(wheels))
                self.assertTrue(all(0 <= place < size for size, place in zip(wheels, setting)))
                self.assertTrue(number_of(wheels, setting) == number)
                self.assertTrue(setting_of(wheels, number) == setting)

    def test_neighbours(self):
        for wheels in large_wheels():
            many = settings(wheels)
            for number in some_numbers(many):
                if number + 1 < many:
                    here = setting_of(wheels, number)
                    self.assertTrue(is_step(here, setting_of(wheels, number + 1)))

    def test_settings_again(self):
        for wheels in large_wheels():
            for setting in ([0 for size in wheels], [size - 1 for size in wheels],
                            [size // 2 for size in wheels], [size // 3 for size in wheels],
                            [min(at, size - 1) for at, size in enumerate(wheels)]):
                number = number_of(wheels, setting)
                self.assertTrue(0 <= number < settings(wheels))
                self.assertTrue(setting_of(wheels, number) == setting)

    def test_the_first_one(self):
        for wheels in large_wheels():
            self.assertEqual(setting_of(wheels, 0), [0] * len(wheels))
            self.assertEqual(number_of(wheels, [0] * len(wheels)), 0)

    def test_one_large_wheel(self):
        for size in (SIXTY_FIGURES, MANY_FIGURES):
            for number in some_numbers(size):
                self.assertTrue(setting_of([size], number) == [number])
                self.assertTrue(number_of([size], [number]) == number)

    def test_thousands_of_wheels(self):
        wheels = [1, 2, 3, 4, 5] * 2000
        many = settings(wheels)
        self.assertTrue(number_of(wheels, setting_of(wheels, many - 1)) == many - 1)


if __name__ == "__main__":
    unittest.main()
