"""Point 6: settings written as texts, and read again."""

import re
import unittest

from tests.helpers import (MOST_WRITTEN, SIXTY_FIGURES, all_settings, no_texts, small_wheels)
from wheelways.errors import BadSetting, BadText, BadWheels
from wheelways.texts import read, written

SIGNS = [chr(code) for code in range(127)]

# A text that is written so, but for what its numbers come to.
FORM = re.compile(r"(?:(?:0|[1-9][0-9]{0,59})(?: (?:0|[1-9][0-9]{0,59}))*)?:"
                  r"(?: (?:0|[1-9][0-9]{0,59}))*")

TEXTS = [
    ":", "1: 0", "2: 1", "10: 9", "10: 0", "2 3: 0 1", "3 3: 2 0", "1 1 1: 0 0 0", "12 1 100: 10 0 99",
    "5 4 3 2 1: 4 3 2 1 0", "2 1 3 10 1: 1 0 2 9 0",
    f"{MOST_WRITTEN}: {MOST_WRITTEN - 1}", f"1 {MOST_WRITTEN} {SIXTY_FIGURES}: 0 {10 ** 59} 0",
]


def large_cases():
    """Wheels of sizes of up to sixty figures, and a setting of each."""
    for size in (10 ** 58, 10 ** 59 - 1, 10 ** 59, SIXTY_FIGURES, MOST_WRITTEN):
        for place in (0, 1, size // 2, size - 1):
            yield [size], [place]
            yield [1, size, 2], [0, place, 1]
    yield [MOST_WRITTEN] * 60, [MOST_WRITTEN - 1] * 60
    yield [MOST_WRITTEN - at for at in range(60)], [10 ** at for at in range(60)]
    yield [2] * 5000, [0, 1] * 2500
    yield [1] * 5000, [0] * 5000


def due(text):
    """What a text is to be read as, told by its form alone; None if it is refused."""
    if FORM.fullmatch(text) is None:
        return None
    sizes, numbers = text.split(":")
    wheels = [int(word) for word in sizes.split()]
    setting = [int(word) for word in numbers.split()]
    if len(wheels) != len(setting) or any(place >= size for size, place in zip(wheels, setting)):
        return None
    return wheels, setting


def changed(text):
    """A text with one sign left out, set in another's place or put in; without the text itself."""
    found = {text[:at] + text[at + 1:] for at in range(len(text))}
    for sign in SIGNS:
        found.update(text[:at] + sign + text[at + 1:] for at in range(len(text)))
        found.update(text[:at] + sign + text[at:] for at in range(len(text) + 1))
    return sorted(found - {text})


class Written(unittest.TestCase):
    def test_sign_by_sign(self):
        self.assertEqual(written([], []), ":")
        self.assertEqual(written([1], [0]), "1: 0")
        self.assertEqual(written([5], [4]), "5: 4")
        self.assertEqual(written([2, 3], [0, 1]), "2 3: 0 1")
        self.assertEqual(written([1, 1, 1], [0, 0, 0]), "1 1 1: 0 0 0")
        self.assertEqual(written([12, 100, 1, 7], [11, 10, 0, 3]), "12 100 1 7: 11 10 0 3")

    def test_small(self):
        for wheels in small_wheels():
            for setting in all_settings(wheels):
                sizes = "".join(" " + str(size) for size in wheels)[1:]
                numbers = "".join(" " + str(place) for place in setting)
                self.assertEqual(written(wheels, setting), sizes + ":" + numbers)

    def test_large(self):
        nines = "9" * 60
        self.assertEqual(written([MOST_WRITTEN], [0]), nines + ": 0")
        self.assertEqual(written([MOST_WRITTEN, 2], [MOST_WRITTEN - 1, 1]),
                         f"{nines} 2: {nines[:-1]}8 1")
        self.assertEqual(written([10 ** 59], [10 ** 58]), "1" + "0" * 59 + ": 1" + "0" * 58)
        self.assertEqual(written([1] * 2000, [0] * 2000), "1" + " 1" * 1999 + ":" + " 0" * 2000)

    def test_is_a_text(self):
        self.assertIs(type(written([], [])), str)
        self.assertIs(type(written([2], [1])), str)

    def test_sizes_of_more_figures_are_refused(self):
        for size in (10 ** 60, 10 ** 60 + 1, 10 ** 61, 10 ** 4299, 10 ** 4300, 10 ** 5000):
            for wheels in ([size], [size, 2], [2, size], [1, size, MOST_WRITTEN]):
                for setting in ([0] * len(wheels), None, [], [size] * len(wheels)):
                    with self.assertRaises(BadWheels):
                        written(wheels, setting)

    def test_numbers_of_more_figures_are_no_setting(self):
        for place in (10 ** 60, 10 ** 5000, -10 ** 5000):
            with self.assertRaises(BadSetting):
                written([MOST_WRITTEN], [place])


class ReadAgain(unittest.TestCase):
    def assert_again(self, wheels, setting):
        text = written(wheels, setting)
        told = read(text)
        self.assertIs(type(told), tuple)
        self.assertEqual([type(part) for part in told], [list, list])
        self.assertEqual({type(number) for part in told for number in part} - {int}, set())
        self.assertEqual(told, (wheels, setting))
        self.assertEqual(written(*told), text)

    def test_of_no_wheels(self):
        self.assertEqual(read(":"), ([], []))
        self.assert_again([], [])

    def test_small(self):
        for wheels in small_wheels():
            for setting in all_settings(wheels):
                self.assert_again(wheels, setting)

    def test_large(self):
        for wheels, setting in large_cases():
            self.assert_again(wheels, setting)

    def test_what_is_told_is_new(self):
        for text in TEXTS:
            one, other = read(text), read(text)
            for part in (*one, *other):
                self.assertEqual(sum(part is list_told for list_told in (*one, *other)), 1)
            one[0].append(7)
            one[1].append(7)
            self.assertEqual(read(text), other)


class ReadJustSo(unittest.TestCase):
    def assert_refused(self, text):
        with self.assertRaises(BadText) as caught:
            read(text)
        self.assertIs(type(caught.exception), BadText)

    def test_one_sign_changed(self):
        refused, told = 0, 0
        for text in TEXTS:
            self.assertEqual(read(text), due(text))
            for other in changed(text):
                if due(other) is None:
                    self.assert_refused(other)
                    refused = refused + 1
                else:
                    self.assertEqual(read(other), due(other), other)
                    self.assertEqual(written(*read(other)), other)
                    told = told + 1
        self.assertGreater(refused, 10000)
        self.assertGreater(told, 1000)

    def test_all_short_texts(self):
        texts = [""]
        for text in texts:
            if len(text) < 6:
                texts.extend(text + sign for sign in "012 :")
            if due(text) is None:
                self.assert_refused(text)
            else:
                self.assertEqual(read(text), due(text), text)

    def test_needless_noughts(self):
        for text in ("02: 0", "2: 00", "2: 01", "2 03: 0 1", "2 3: 0 01", "00: 0", "0002: 1",
                     "2: 0000", "0" * 58 + "12: 0", "0" * 60 + "1: 0", "12: " + "0" * 60):
            self.assert_refused(text)

    def test_other_signs(self):
        for text in ("+2: 0", "2: +1", "2: -0", "-2: 0", "-2: -1", "2: -1", "1_0: 0", "10: 0_1",
                     "10: 1_", "_10: 1", "2.: 0", "2.0: 0", "2: 0.", "0x2: 0", "2: 0x1", "1e1: 0",
                     "2,3: 0,1", "2, 3: 0, 1", "[2]: [0]", "a: 0", "2: a", "2; 0", "2= 0", "2. 0"):
            self.assert_refused(text)

    def test_other_blanks(self):
        for blank in ("\t", "\n", "\r", "\v", "\f", "\x1c", "\x1d", "\x1e", "\x1f", "\0", "  "):
            for text in (f"2{blank}3: 0 1", f"2 3:{blank}0 1", f"2 3: 0{blank}1", f"2 3: 0 1{blank}",
                         f"{blank}2 3: 0 1", f"2 3{blank}: 0 1", f":{blank}", f"{blank}:"):
                self.assert_refused(text)

    def test_a_line_end(self):
        for end in ("\n", "\r", "\r\n", "\n\n", " \n"):
            for text in TEXTS:
                self.assert_refused(text + end)
                self.assert_refused(end + text)

    def test_the_colon(self):
        for text in ("", " ", "2", "2 0", "2  0", "2 3 0 1", "::", "2:: 0", "2: 0:", ":2: 0",
                     "2: :0", "2 3: 0: 1", "2: 0 3: 1", "2: 0 : 0", ": :", " :", ": "):
            self.assert_refused(text)

    def test_blanks_missing_or_further(self):
        for text in ("2:0", "2 3:0 1", "2 3: 01", "23: 0 1", " 2: 0", "2 : 0", "2:  0", "2: 0 ",
                     "2  3: 0 1", "2 3: 0  1", "2 3 : 0 1", " 2 3: 0 1", "2 3:  0 1"):
            self.assert_refused(text)

    def test_too_many_or_too_few_numbers(self):
        for text in ("2:", ": 0", "2: 0 0", "2 3: 0", "2 3:", "2 3: 0 1 0", "1 1 1: 0 0",
                     "1: 0 0", ": 0 0"):
            self.assert_refused(text)

    def test_numbers_not_below_their_size(self):
        for text in ("1: 1", "2: 2", "2: 3", "2 3: 2 0", "2 3: 0 3", "10: 10", "10: 99",
                     f"{MOST_WRITTEN}: {MOST_WRITTEN}", f"{SIXTY_FIGURES}: {MOST_WRITTEN}"):
            self.assert_refused(text)

    def test_a_size_of_nought(self):
        for text in ("0: 0", "0:", "0 2: 0 0", "2 0: 0 0", "2 0: 0", "0: 1"):
            self.assert_refused(text)

    def test_sizes_and_numbers_of_more_figures(self):
        for figures in (61, 62, 640, 4299, 4300, 4301, 5000, 100000):
            many = "1" * figures
            for text in (f"{many}: 0", f"2 {many}: 0 0", f"{many} 2: 0 0", f"2: {many}", many,
                         f"{many}: {many}", f"{many}:", f":{many}", f": {many}", f"-{many}: 0"):
                self.assert_refused(text)
            self.assert_refused("9" * figures + ": 0")
            self.assert_refused("0" * figures + "2: 0")
            self.assert_refused("2: " + "0" * figures)

    def test_long_texts(self):
        for text in (" " * 100000, ":" * 100000, "2" + " " * 100000 + ": 0", "1 " * 100000 + ":",
                     ":" + " 0" * 100000, "1 " * 100000 + "1:" + " 0" * 100000, "-" * 100000):
            self.assert_refused(text)
        text = "1 " * 100000 + "1:" + " 0" * 100001
        self.assertEqual(read(text), ([1] * 100001, [0] * 100001))

    def test_no_texts(self):
        for which, thing in enumerate(no_texts()):
            with self.subTest(which=which):
                self.assert_refused(thing)


if __name__ == "__main__":
    unittest.main()
