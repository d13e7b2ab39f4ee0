"""Point 4: whether there is a ring of all settings, or why there is none."""

import unittest
from itertools import product

from tests.helpers import (MANY_FIGURES, SIXTY_FIGURES, all_settings, has_ring, large_rings,
                           large_wheels, neighbours, small_wheels)
from wheelways import answers
from wheelways.answers import Answer, Around, Dead, Odd
from wheelways.around import around, ring_setting
from wheelways.wheels import settings


def searched_ring(wheels):
    """Whether there is a ring of all settings, by a search that tries each way."""
    beside = {tuple(setting): [tuple(other) for other in neighbours(wheels, setting)]
              for setting in all_settings(wheels)}
    if len(beside) < 4:
        return False
    start = (0,) * len(wheels)
    gone = [start]

    def goes_on():
        if len(gone) == len(beside):
            return start in beside[gone[-1]]
        for other in beside[gone[-1]]:
            if other not in gone:
                gone.append(other)
                if goes_on():
                    return True
                gone.pop()
        return False

    return goes_on()


def dead_settings(wheels):
    """The settings with fewer than two neighbours, by a count of one's own."""
    return [setting for setting in all_settings(wheels) if len(neighbours(wheels, setting)) < 2]


def is_true(answer, wheels):
    """Whether an answer is true of small wheels, by a count of one's own."""
    if isinstance(answer, Around):
        return has_ring(wheels)
    if isinstance(answer, Dead):
        return answer.setting in dead_settings(wheels)
    return len(all_settings(wheels)) % 2 == 1


class Classes(unittest.TestCase):
    def test_straight_under_answer(self):
        self.assertEqual(Answer.__bases__, (object,))
        for kind in (Around, Dead, Odd):
            self.assertEqual(kind.__bases__, (Answer,))

    def test_each_is_defined_in_its_file_with_shows(self):
        for name in ("Answer", "Around", "Dead", "Odd"):
            self.assertEqual(getattr(answers, name).__module__, "wheelways.answers")
        for kind in (Around, Dead, Odd):
            self.assertIn("shows", vars(kind))

    def test_fields(self):
        self.assertEqual(vars(Around()), {})
        self.assertEqual(vars(Odd()), {})
        self.assertEqual(vars(Dead([1, 2])), {"setting": [1, 2]})
        self.assertEqual(vars(Dead(setting=[])), {"setting": []})


class Told(unittest.TestCase):
    def test_it_is_one_of_the_three_and_true(self):
        for wheels in small_wheels():
            with self.subTest(wheels=wheels):
                answer = around(wheels)
                self.assertIn(type(answer), (Around, Dead, Odd))
                self.assertTrue(is_true(answer, wheels))
                self.assertIs(answer.shows(wheels), True)

    def test_around_just_where_there_is_a_ring(self):
        for wheels in small_wheels():
            with self.subTest(wheels=wheels):
                self.assertEqual(type(around(wheels)) is Around, has_ring(wheels))

    def test_around_just_where_a_search_finds_a_ring(self):
        for wheels in small_wheels():
            if len(all_settings(wheels)) <= 18:
                with self.subTest(wheels=wheels):
                    self.assertEqual(type(around(wheels)) is Around, searched_ring(wheels))

    def test_some(self):
        for wheels in ([2, 2], [2, 3], [3, 2], [1, 4, 1, 5, 1], [3, 3, 2], [2] * 7):
            self.assertIs(type(around(wheels)), Around)
        for wheels in ([], [1], [2], [9], [1, 1, 1], [1, 8, 1]):
            self.assertIn(type(around(wheels)), (Dead, Odd))
        for wheels in ([2], [8], [1, 8, 1]):
            self.assertIs(type(around(wheels)), Dead)
        for wheels in ([3, 3], [3, 1, 5], [7, 7, 7, 7]):
            self.assertIs(type(around(wheels)), Odd)

    def test_the_setting_of_the_dead_one_is_a_list_of_plain_numbers(self):
        answer = around([1, 8, 1])
        self.assertIs(type(answer.setting), list)
        self.assertEqual({type(place) for place in answer.setting}, {int})
        self.assertIn(answer.setting, [[0, 0, 0], [0, 7, 0]])

    def test_large(self):
        for wheels in large_rings():
            self.assertIs(type(around(wheels)), Around)
        for wheels in ([SIXTY_FIGURES, SIXTY_FIGURES], [3] * 61, [SIXTY_FIGURES] * 60,
                       [1, MANY_FIGURES, 3], [3] * 10000):
            self.assertIs(type(around(wheels)), Odd)
        for wheels in ([SIXTY_FIGURES + 1], [1] * 30 + [MANY_FIGURES + 1] + [1] * 30):
            self.assertIs(type(around(wheels)), Dead)
        for wheels in large_wheels() + [[1] * 10000, [2] * 10000]:
            self.assertIs(around(wheels).shows(wheels), True)


class Shown(unittest.TestCase):
    """The answers made by hand, asked of many wheels."""

    def test_around(self):
        for wheels in small_wheels():
            with self.subTest(wheels=wheels):
                self.assertIs(Around().shows(wheels), has_ring(wheels))

    def test_odd(self):
        for wheels in small_wheels():
            with self.subTest(wheels=wheels):
                self.assertIs(Odd().shows(wheels), len(all_settings(wheels)) % 2 == 1)

    def test_dead_of_all_small_lists(self):
        lists = [list(places) for many in range(4) for places in product(range(-2, 5), repeat=many)]
        for wheels in small_wheels():
            if len(wheels) <= 3 and max(wheels, default=1) <= 4:
                due = dead_settings(wheels)
                for setting in lists:
                    if Dead(setting).shows(wheels) is not (setting in due):
                        self.fail(f"{setting} of {wheels}")

    def test_dead_of_all_settings_and_of_longer_and_shorter_ones(self):
        for wheels in small_wheels():
            due = dead_settings(wheels)
            for setting in all_settings(wheels):
                with self.subTest(wheels=wheels, setting=setting):
                    self.assertIs(Dead(setting).shows(wheels), setting in due)
                    self.assertIs(Dead(setting + [0]).shows(wheels), False)
                    self.assertIs(Dead([0] + setting).shows(wheels), False)
                    if setting:
                        self.assertIs(Dead(setting[1:]).shows(wheels), False)
                        self.assertIs(Dead(setting[:-1]).shows(wheels), False)

    def test_dead_of_one_wheel(self):
        self.assertEqual([Dead([place]).shows([1]) for place in range(-2, 4)],
                         [False, False, True, False, False, False])
        self.assertEqual([Dead([place]).shows([2]) for place in range(-2, 4)],
                         [False, False, True, True, False, False])
        self.assertEqual([Dead([place]).shows([4]) for place in range(-2, 7)],
                         [False, False, True, False, False, True, False, False, False])

    def test_dead_of_no_wheels(self):
        self.assertIs(Dead([]).shows([]), True)
        self.assertIs(Dead([0]).shows([]), False)
        self.assertIs(Dead([]).shows([1]), False)

    def test_dead_of_large_numbers(self):
        for size in (SIXTY_FIGURES, MANY_FIGURES):
            for place, due in ((0, True), (size - 1, True), (1, False), (size // 2, False),
                               (size - 2, False), (size, False), (-1, False), (-size, False),
                               (size * size, False)):
                self.assertIs(Dead([place]).shows([size]), due)
                self.assertIs(Dead([0, place, 0]).shows([1, size, 1]), due)
                self.assertIs(Dead([0, place]).shows([2, size]), False)

    def test_large_wheels(self):
        for wheels in large_wheels() + large_rings():
            odd = all(size % 2 == 1 for size in wheels)
            turning = sum(size > 1 for size in wheels)
            self.assertIs(Odd().shows(wheels), odd)
            self.assertIs(Around().shows(wheels), turning > 1 and not odd)
            self.assertIs(Dead([0] * len(wheels)).shows(wheels), turning < 2)

    def test_an_answer_asked_of_other_wheels_than_its_own(self):
        some = [[], [1], [2], [3], [1, 2], [2, 1], [2, 2], [3, 3], [3, 2], [1, 1], [2, 2, 2]]
        for own in some:
            answer = around(own)
            for wheels in some:
                with self.subTest(own=own, wheels=wheels):
                    self.assertIs(answer.shows(wheels), is_true(answer, wheels))
            self.assertIs(answer.shows(own), True)


class Lists(unittest.TestCase):
    """Lists changed ahead of asking and behind it."""

    def test_the_list_handed_in_is_copied(self):
        given = [0]
        answer = Dead(given)
        self.assertIsNot(answer.setting, given)
        given[0] = 5
        given.append(7)
        self.assertEqual(answer.setting, [0])
        self.assertIs(answer.shows([3]), True)
        answer.setting.append(1)
        self.assertEqual(given, [5, 7])

    def test_the_answers_own_list_counts_as_it_stands(self):
        answer = Dead([0])
        self.assertIs(answer.shows([3]), True)
        answer.setting[0] = 1
        self.assertIs(answer.shows([3]), False)
        self.assertIs(answer.shows([2]), True)
        answer.setting[0] = 2
        self.assertIs(answer.shows([3]), True)
        answer.setting.append(0)
        self.assertIs(answer.shows([3]), False)
        self.assertIs(answer.shows([3, 1]), True)
        answer.setting = []
        self.assertIs(answer.shows([3, 1]), False)
        self.assertIs(answer.shows([]), True)

    def test_the_wheels_asked_are_not_kept(self):
        for answer in (Around(), Dead([0, 0]), Odd()):
            wheels = [2, 3]
            self.assertIs(answer.shows(wheels), isinstance(answer, Around))
            wheels[0] = 1
            self.assertIs(answer.shows(wheels), not isinstance(answer, Around))
            self.assertEqual(wheels, [1, 3])
            fields = {"setting": [0, 0]} if isinstance(answer, Dead) else {}
            self.assertEqual(vars(answer), fields)

    def test_asking_changes_no_setting(self):
        answer = Dead([9, -9])
        for wheels in ([], [1], [2, 2], [10, 1]):
            answer.shows(wheels)
            self.assertEqual(answer.setting, [9, -9])

    def test_each_answer_told_is_new(self):
        for wheels in ([], [1], [4], [1, 4], [2, 3], [3, 3]):
            one, other = around(wheels), around(wheels)
            self.assertIsNot(one, other)
            if isinstance(one, Dead):
                self.assertIsNot(one.setting, other.setting)
                one.setting.append(0)
                self.assertEqual(len(other.setting), len(wheels))
            self.assertIs(around(wheels).shows(wheels), True)

    def test_the_setting_told_is_not_the_list_of_wheels(self):
        for wheels in ([], [1], [1, 1]):
            answer = around(wheels)
            if isinstance(answer, Dead):
                self.assertIsNot(answer.setting, wheels)


class Rings(unittest.TestCase):
    def test_a_ring_has_four_settings_or_more(self):
        for wheels in small_wheels():
            if type(around(wheels)) is Around:
                self.assertGreaterEqual(settings(wheels), 4)
                self.assertEqual(len(ring_setting(wheels, 3)), len(wheels))


if __name__ == "__main__":
    unittest.main()
