"""Point 1: nothing handed in is changed or kept, and what is told is new."""

import unittest

from tests.helpers import MOST_WRITTEN, all_settings, large_rings, large_wheels, small_wheels
from wheelways.answers import Around, Dead, Odd
from wheelways.around import around, ring_number, ring_setting
from wheelways.forth import number_of, setting_of
from wheelways.texts import written
from wheelways.wheels import apart, near, settings


def each_answer(wheels, setting, other, number):
    """What each door tells; the lists among it stand at 1, 3 and 5 and from 8 on."""
    answer = around(wheels)
    truths = [one.shows(wheels) for one in (answer, Around(), Dead(setting), Odd())]
    told = [settings(wheels), near(wheels, setting), apart(wheels, setting, other),
            setting_of(wheels, number), number_of(wheels, setting),
            vars(answer).get("setting", []), type(answer), truths]
    if isinstance(answer, Around):
        told = told + [ring_setting(wheels, number), [ring_number(wheels, setting)]]
    if max(wheels, default=1) <= MOST_WRITTEN:
        told = told + [[written(wheels, setting)]]
    return told


def cases():
    """Wheels, two settings and a number each."""
    for wheels in list(small_wheels()) + large_wheels() + large_rings():
        last = [size - 1 for size in wheels]
        yield wheels, last, [0] * len(wheels), settings(wheels) - 1


class Untouched(unittest.TestCase):
    def test_what_is_handed_in_stays_as_it_was(self):
        for wheels, setting, other, number in cases():
            ahead = [list(wheels), list(setting), list(other)]
            each_answer(wheels, setting, other, number)
            self.assertTrue([wheels, setting, other] == ahead)

    def test_also_where_it_is_refused(self):
        wheels, setting = [2, 1, 3], [0, 0, 3]
        for door in (near, number_of, ring_number, written):
            with self.assertRaises(ValueError):
                door(wheels, setting)
        for door in (setting_of, ring_setting):
            with self.assertRaises(ValueError):
                door(wheels, 6)
        self.assertEqual((wheels, setting), ([2, 1, 3], [0, 0, 3]))

    def test_lists_told_may_be_changed(self):
        for wheels, setting, other, number in cases():
            told = each_answer(wheels, setting, other, number)
            again = each_answer(wheels, setting, other, number)
            for neighbour in told[1]:
                neighbour.clear()
            told[1].append("more")
            for at in (3, 5, *range(8, len(told))):
                told[at].append("more")
            self.assertTrue(each_answer(wheels, setting, other, number) == again)

    def test_lists_handed_in_may_be_changed(self):
        for wheels, setting, other, number in cases():
            again = each_answer(list(wheels), list(setting), list(other), number)
            told = each_answer(wheels, setting, other, number)
            kept = [list(wheels), list(setting), list(other)]
            for given in (wheels, setting, other):
                given.append(7)
                given[0] = 5
            self.assertTrue(told == again)
            self.assertTrue(each_answer(*kept, number) == again)

    def test_neighbours_share_no_list(self):
        for wheels in small_wheels():
            for setting in all_settings(wheels):
                found = near(wheels, setting)
                lists = found + [wheels, setting, found]
                self.assertEqual(len({id(one) for one in lists}), len(lists))

    def test_one_list_as_both_settings_or_as_wheels_and_setting(self):
        both = [1, 2]
        self.assertEqual(apart([2, 3], both, both), 0)
        alone = []
        self.assertEqual(near(alone, alone), [])
        self.assertEqual(setting_of(alone, 0), [])
        self.assertIsNot(setting_of(alone, 0), alone)
        self.assertIsNot(near(alone, alone), alone)
        dead = Dead(alone)
        self.assertIs(dead.shows(alone), True)
        self.assertIs(Dead(dead.setting).shows(dead.setting), True)
        self.assertEqual(written(alone, alone), ":")
        self.assertEqual(alone, [])


if __name__ == "__main__":
    unittest.main()
