"""Point 1: what is refused, as what and in which order."""

import unittest

from tests.helpers import (MANY_FIGURES, bad_settings, bad_wheels, large_rings, large_wheels,
                           no_whole_numbers, setting_doors, small_wheels, wheel_doors)
from wheelways import errors
from wheelways.answers import Around
from wheelways.around import around, ring_number, ring_setting
from wheelways.errors import BadNumber, BadSetting, BadText, BadWheels, NoRing, WheelError
from wheelways.forth import number_of, setting_of
from wheelways.texts import written
from wheelways.wheels import apart, near, settings

# Wheels that the bad settings of the helpers are no settings of; they have a ring.
WHEELS = [2, 1, 3]

# Wheels without one, some dead, some odd, some both.
NO_RINGS = ([], [1], [2], [9], [1, 1, 1], [1, 8, 1], [3, 3], [5, 1, 3], [MANY_FIGURES, 3])


class Refusals(unittest.TestCase):
    def assert_refused(self, error, door, *given):
        """The very class is raised: none above it, none below it."""
        with self.assertRaises(error) as caught:
            door(*given)
        self.assertIs(type(caught.exception), error)


class ErrorClasses(unittest.TestCase):
    def test_the_first_is_straight_under_value_error(self):
        self.assertEqual(WheelError.__bases__, (ValueError,))

    def test_the_others_are_straight_under_it(self):
        for error in (BadWheels, BadSetting, BadNumber, NoRing, BadText):
            with self.subTest(error=error.__name__):
                self.assertEqual(error.__bases__, (WheelError,))

    def test_there_are_no_others(self):
        due = {BadWheels, BadSetting, BadNumber, NoRing, BadText}
        self.assertEqual(set(WheelError.__subclasses__()), due)
        for error in due:
            self.assertEqual(error.__subclasses__(), [])

    def test_each_is_defined_in_its_file(self):
        for name in ("WheelError", "BadWheels", "BadSetting", "BadNumber", "NoRing", "BadText"):
            error = getattr(errors, name)
            self.assertEqual((error.__name__, error.__module__), (name, "wheelways.errors"))


class Wheels(Refusals):
    def test_each_door(self):
        for at, door in enumerate(wheel_doors()):
            for which, wheels in enumerate(bad_wheels()):
                with self.subTest(door=at, which=which):
                    self.assert_refused(BadWheels, door, wheels)

    def test_the_empty_list_is_no_wheels_and_not_refused(self):
        self.assertEqual(settings([]), 1)
        self.assertEqual(near([], []), [])
        self.assertEqual(apart([], [], []), 0)
        self.assertEqual(setting_of([], 0), [])
        self.assertEqual(number_of([], []), 0)
        self.assertEqual(written([], []), ":")
        self.assertIs(around([]).shows([]), True)

    def test_right_ones_are_not_refused(self):
        for door in wheel_doors():
            door(WHEELS)
        for wheels in list(small_wheels()) + large_wheels():
            settings(wheels)
            around(wheels)


class Settings(Refusals):
    def test_each_door(self):
        for at, door in enumerate(setting_doors()):
            for which, setting in enumerate(bad_settings()):
                with self.subTest(door=at, which=which):
                    self.assert_refused(BadSetting, door, WHEELS, setting)

    def test_right_ones_are_not_refused(self):
        for door in setting_doors():
            for setting in ([0, 0, 0], [1, 0, 0], [0, 0, 2], [1, 0, 2]):
                door(WHEELS, setting)

    def test_of_no_wheels_all_but_the_empty_list(self):
        for which, setting in enumerate(bad_settings()):
            if isinstance(setting, list) and setting == []:
                continue
            with self.subTest(which=which):
                self.assert_refused(BadSetting, near, [], setting)
                self.assert_refused(BadSetting, number_of, [], setting)
                self.assert_refused(BadSetting, apart, [], setting, [])
                self.assert_refused(BadSetting, apart, [], [], setting)
                self.assert_refused(BadSetting, written, [], setting)

    def test_the_empty_list_is_too_short(self):
        for wheels in ([1], [2], [1, 1]):
            self.assert_refused(BadSetting, near, wheels, [])
            self.assert_refused(BadSetting, number_of, wheels, [])
            self.assert_refused(BadSetting, written, wheels, [])
            self.assert_refused(BadSetting, apart, wheels, [], [0] * len(wheels))
            self.assert_refused(BadSetting, apart, wheels, [0] * len(wheels), [])

    def test_one_beyond_and_below(self):
        for wheels in large_wheels():
            for at in (0, len(wheels) // 2, len(wheels) - 1):
                for wrong in (-1, wheels[at]):
                    setting = [0] * len(wheels)
                    setting[at] = wrong
                    self.assert_refused(BadSetting, near, wheels, setting)
                    self.assert_refused(BadSetting, number_of, wheels, setting)
                    self.assert_refused(BadSetting, apart, wheels, setting, [0] * len(wheels))
                    self.assert_refused(BadSetting, apart, wheels, [0] * len(wheels), setting)

    def test_one_beyond_and_below_on_a_ring(self):
        for wheels in large_rings():
            for at in range(len(wheels)):
                for wrong in (-1, wheels[at]):
                    setting = [0] * len(wheels)
                    setting[at] = wrong
                    self.assert_refused(BadSetting, ring_number, wheels, setting)
            self.assert_refused(BadSetting, ring_number, wheels, [0] * (len(wheels) - 1))
            self.assert_refused(BadSetting, ring_number, wheels, [0] * (len(wheels) + 1))
            self.assert_refused(BadSetting, ring_number, wheels, [])


class Numbers(Refusals):
    def test_no_whole_number(self):
        for wheels in ([], [1], WHEELS):
            for which, number in enumerate(no_whole_numbers()):
                with self.subTest(wheels=wheels, which=which):
                    self.assert_refused(BadNumber, setting_of, wheels, number)

    def test_no_whole_number_on_a_ring(self):
        for wheels in ([2, 2], WHEELS, [3, 1, 4]):
            for which, number in enumerate(no_whole_numbers()):
                with self.subTest(wheels=wheels, which=which):
                    self.assert_refused(BadNumber, ring_setting, wheels, number)

    def test_one_beyond_and_below(self):
        for wheels in list(small_wheels()) + large_wheels():
            self.assert_refused(BadNumber, setting_of, wheels, -1)
            self.assert_refused(BadNumber, setting_of, wheels, settings(wheels))
            self.assert_refused(BadNumber, setting_of, wheels, settings(wheels) + 1)
            self.assertEqual(len(setting_of(wheels, settings(wheels) - 1)), len(wheels))

    def test_one_beyond_and_below_on_a_ring(self):
        for wheels in list(small_wheels()) + large_rings():
            if Around().shows(wheels):
                self.assert_refused(BadNumber, ring_setting, wheels, -1)
                self.assert_refused(BadNumber, ring_setting, wheels, settings(wheels))
                self.assert_refused(BadNumber, ring_setting, wheels, settings(wheels) + 1)
                last = ring_setting(wheels, settings(wheels) - 1)
                self.assertEqual(len(last), len(wheels))

    def test_far_beyond_and_below(self):
        self.assert_refused(BadNumber, ring_setting, WHEELS, MANY_FIGURES)
        self.assert_refused(BadNumber, ring_setting, WHEELS, -MANY_FIGURES)
        self.assert_refused(BadNumber, setting_of, WHEELS, MANY_FIGURES)
        self.assert_refused(BadNumber, setting_of, WHEELS, -MANY_FIGURES)


class Order(Refusals):
    def test_wheels_ahead_of_a_setting(self):
        for at, door in enumerate(setting_doors()):
            for wheels in (None, [0], [2, True, 3], [2, 1, "3"], [[2, 1, 3]], (2, 1, 3)):
                for setting in (None, [], [9, 9, 9], [True, 0, 0], [0, 0]):
                    with self.subTest(door=at, wheels=wheels, setting=setting):
                        self.assert_refused(BadWheels, door, wheels, setting)

    def test_wheels_ahead_of_a_number(self):
        for wheels in (None, [0], [2, True], "23", [-2, -3], [2, 0]):
            for number in (None, -1, True, "0", 10 ** 9):
                with self.subTest(wheels=wheels, number=number):
                    self.assert_refused(BadWheels, setting_of, wheels, number)
                    self.assert_refused(BadWheels, ring_setting, wheels, number)

    def test_wheels_ahead_of_a_ring(self):
        for wheels in (None, [0], [0, 3], [3, True], [True, True], "", (), [3, 3, 0], [[]]):
            with self.subTest(wheels=wheels):
                self.assert_refused(BadWheels, around, wheels)
                self.assert_refused(BadWheels, ring_setting, wheels, 0)
                self.assert_refused(BadWheels, ring_number, wheels, [0])

    def test_a_ring_ahead_of_a_number(self):
        for wheels in NO_RINGS:
            for number in no_whole_numbers() + [0, -1, 10 ** 9, MANY_FIGURES ** 3, -MANY_FIGURES]:
                self.assert_refused(NoRing, ring_setting, wheels, number)

    def test_a_ring_ahead_of_a_setting(self):
        for wheels in NO_RINGS:
            for setting in bad_settings() + [[0] * len(wheels), [9] * len(wheels)]:
                self.assert_refused(NoRing, ring_number, wheels, setting)

    def test_sizes_too_long_to_write_ahead_of_a_setting(self):
        for wheels in ([10 ** 60], [2, 10 ** 60, 3], [MANY_FIGURES, 1, 3]):
            for setting in bad_settings() + [[0] * len(wheels)]:
                self.assert_refused(BadWheels, written, wheels, setting)
            for other in (wheels + [0], wheels + ["2"], [True] + wheels):
                self.assert_refused(BadWheels, written, other, [0] * len(other))

    def test_they_are_refused_where_they_are_written_alone(self):
        wheels = [10 ** 60, 2]
        self.assertEqual(number_of(wheels, [0, 0]), 0)
        self.assertEqual(ring_setting(wheels, ring_number(wheels, [1, 1])), [1, 1])

    def test_both_settings_bad(self):
        self.assert_refused(BadSetting, apart, WHEELS, None, [9, 9, 9])
        self.assert_refused(BadSetting, apart, WHEELS, [0, 0], [0, 0])


if __name__ == "__main__":
    unittest.main()
