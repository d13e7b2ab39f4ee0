"""Point 5: the ring of all settings, and the numbers on it."""

import unittest

from tests.helpers import (MANY_FIGURES, SIXTY_FIGURES, all_settings, has_ring, is_step,
                           large_rings, large_wheels, small_wheels, some_numbers)
from wheelways.around import ring_number, ring_setting
from wheelways.errors import NoRing
from wheelways.wheels import settings


def rings():
    """Small wheels that have a ring."""
    found = [wheels for wheels in small_wheels() if has_ring(wheels)]
    return found + [[2, 9], [9, 2], [8, 3], [3, 8], [5, 5, 6], [5, 6, 5], [6, 5, 5],
                    [1, 5, 1, 4, 1, 3, 1], [10, 10], [2, 3, 4, 5]]


def ring(wheels):
    return [ring_setting(wheels, number) for number in range(settings(wheels))]


def numbers_at_turns(wheels):
    """Numbers at the first, last and middle ones, and ends of stretches of any wheel's size."""
    many = settings(wheels)
    found = some_numbers(many)
    for size in wheels[:3] + wheels[len(wheels) // 2 - 1:][:3] + wheels[-3:]:
        for stretch in (size, many // size, many - size):
            found = found + [stretch - 2, stretch - 1, stretch, stretch + 1, stretch + 2]
    return [number for number in found if 0 <= number < many]


class SmallWheels(unittest.TestCase):
    def test_there_are_some_with_and_without(self):
        self.assertGreater(len(rings()), 30)
        self.assertGreater(len([wheels for wheels in small_wheels() if not has_ring(wheels)]), 20)

    def test_all_settings_each_once(self):
        for wheels in rings():
            with self.subTest(wheels=wheels):
                self.assertEqual(sorted(ring(wheels)), all_settings(wheels))

    def test_each_is_a_neighbour_of_the_one_ahead_the_first_of_the_last(self):
        for wheels in rings():
            told = ring(wheels)
            self.assertGreaterEqual(len(told), 4)
            for at, setting in enumerate(told):
                with self.subTest(wheels=wheels, setting=setting):
                    self.assertTrue(is_step(told[at - 1], setting))

    def test_the_number_of_each_setting_is_it_again(self):
        for wheels in rings():
            for number, setting in enumerate(ring(wheels)):
                with self.subTest(wheels=wheels, setting=setting):
                    self.assertEqual(ring_number(wheels, setting), number)

    def test_the_setting_of_each_number_is_it_again(self):
        for wheels in rings():
            for setting in all_settings(wheels):
                with self.subTest(wheels=wheels, setting=setting):
                    self.assertEqual(ring_setting(wheels, ring_number(wheels, setting)), setting)

    def test_the_same_told_again(self):
        told = [ring(wheels) for wheels in rings()]
        backwards = [ring(wheels) for wheels in reversed(rings())]
        self.assertEqual(backwards[::-1], told)

    def test_kinds(self):
        for wheels in ([2, 2], [3, 1, 4]):
            for number in range(settings(wheels)):
                setting = ring_setting(wheels, number)
                self.assertIs(type(setting), list)
                self.assertEqual({type(place) for place in setting}, {int})
                self.assertIs(type(ring_number(wheels, setting)), int)


class LargeWheels(unittest.TestCase):
    def test_numbers_again(self):
        for wheels in large_rings():
            for number in numbers_at_turns(wheels):
                setting = ring_setting(wheels, number)
                self.assertEqual(len(setting), len(wheels))
                self.assertTrue(all(0 <= place < size for size, place in zip(wheels, setting)))
                self.assertTrue(ring_number(wheels, setting) == number)
                self.assertTrue(ring_setting(wheels, number) == setting)

    def test_neighbours(self):
        for wheels in large_rings():
            many = settings(wheels)
            for number in numbers_at_turns(wheels):
                here = ring_setting(wheels, number)
                self.assertTrue(is_step(here, ring_setting(wheels, (number + 1) % many)))
                self.assertTrue(is_step(here, ring_setting(wheels, (number - 1) % many)))

    def test_settings_again(self):
        for wheels in large_rings():
            for setting in ([0 for size in wheels], [size - 1 for size in wheels],
                            [size // 2 for size in wheels], [size // 3 for size in wheels],
                            [min(at, size - 1) for at, size in enumerate(wheels)],
                            [(size - 1) * (at % 2) for at, size in enumerate(wheels)],
                            [(size - 1) * (1 - at % 2) for at, size in enumerate(wheels)]):
                number = ring_number(wheels, setting)
                self.assertTrue(0 <= number < settings(wheels))
                self.assertTrue(ring_setting(wheels, number) == setting)

    def test_settings_with_one_wheel_turned(self):
        for wheels in large_rings():
            for at in (0, len(wheels) // 2, len(wheels) - 1):
                for place in {0, wheels[at] // 2, wheels[at] - 1}:
                    setting = [0] * len(wheels)
                    setting[at] = place
                    self.assertTrue(ring_setting(wheels, ring_number(wheels, setting)) == setting)

    def test_thousands_of_wheels(self):
        wheels = [1, 3, 5, 1, 7] * 800 + [2] + [1, 3, 5, 1, 7] * 800
        many = settings(wheels)
        last = ring_setting(wheels, many - 1)
        self.assertTrue(ring_number(wheels, last) == many - 1)
        self.assertTrue(is_step(last, ring_setting(wheels, 0)))


class NoRings(unittest.TestCase):
    def test_small(self):
        for wheels in small_wheels():
            if not has_ring(wheels):
                with self.subTest(wheels=wheels):
                    with self.assertRaises(NoRing):
                        ring_setting(wheels, 0)
                    for setting in all_settings(wheels):
                        with self.assertRaises(NoRing):
                            ring_number(wheels, setting)

    def test_large(self):
        without = [[SIXTY_FIGURES], [SIXTY_FIGURES + 1], [1, MANY_FIGURES, 1], [3] * 61,
                   [1] * 500, [SIXTY_FIGURES] * 60, [1] * 60 + [10 ** 60]]
        for wheels in without:
            with self.assertRaises(NoRing):
                ring_setting(wheels, 0)
            with self.assertRaises(NoRing):
                ring_number(wheels, [0] * len(wheels))

    def test_just_these_of_the_large_ones(self):
        for wheels in large_wheels():
            turning = [size for size in wheels if size > 1]
            if len(turning) > 1 and any(size % 2 == 0 for size in turning):
                self.assertEqual(len(ring_setting(wheels, 0)), len(wheels))
            else:
                with self.assertRaises(NoRing):
                    ring_setting(wheels, 0)


if __name__ == "__main__":
    unittest.main()
