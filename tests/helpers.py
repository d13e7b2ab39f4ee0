"""What several tests need: small and large wheels, and things that are refused."""

from decimal import Decimal
from fractions import Fraction
from itertools import product

from wheelways.around import around, ring_number, ring_setting
from wheelways.forth import number_of, setting_of
from wheelways.texts import written
from wheelways.wheels import apart, near, settings

SIXTY_FIGURES = 10 ** 59 + 7
MOST_WRITTEN = 10 ** 60 - 1
MANY_FIGURES = 10 ** 5000 + 3


class Prickly:
    """A thing that can't be compared, counted, measured or gone through."""

    def refuse(self, *rest):
        raise RuntimeError("asked")

    __eq__ = __lt__ = __le__ = __gt__ = __ge__ = refuse
    __len__ = __iter__ = __getitem__ = __bool__ = __index__ = __int__ = refuse
    __hash__ = __contains__ = __repr__ = __str__ = refuse


def small_wheels():
    """All wheels of up to three sizes from 1 to 4, and a few more."""
    for many in range(4):
        for sizes in product(range(1, 5), repeat=many):
            yield list(sizes)
    for sizes in ([9], [6, 7], [7, 6], [5, 1, 6], [2, 3, 2, 3], [3, 3, 3, 3], [1, 1, 1, 1],
                  [4, 1, 3, 2], [2] * 7, [1] * 9, [2, 1, 2, 1, 5, 1]):
        yield list(sizes)


def large_wheels():
    """Wheels with more settings than anyone could go through."""
    return [
        [SIXTY_FIGURES],
        [MANY_FIGURES],
        [2] * 60,
        [3] * 61,
        [1] * 500,
        list(range(1, 61)),
        [SIXTY_FIGURES] * 60,
        [SIXTY_FIGURES + at for at in range(60)],
        [1, MANY_FIGURES, 2, MANY_FIGURES + 1, 1],
        [7, 10] * 500,
    ]


def large_rings():
    """Wheels with a ring of more settings than anyone could go along."""
    return [
        [2] * 60,
        [3] * 59 + [4],
        [4] + [3] * 59,
        [3] * 30 + [4] + [3] * 29,
        [1] * 20 + [2] + [1] * 20 + [3] + [1] * 20,
        [1, 3, 1, 5, 1, 2, 1],
        list(range(1, 61)),
        [SIXTY_FIGURES + at for at in range(60)],
        [SIXTY_FIGURES + 1] + [SIXTY_FIGURES] * 59,
        [SIXTY_FIGURES] * 59 + [SIXTY_FIGURES + 1],
        [SIXTY_FIGURES] * 30 + [2] + [SIXTY_FIGURES] * 29,
        [2, SIXTY_FIGURES],
        [SIXTY_FIGURES, 2],
        [MOST_WRITTEN, 1, 10 ** 60, 1, 10 ** 75 + 1],
        [1, MANY_FIGURES, 2, MANY_FIGURES + 1, 1],
        [7, 10] * 500,
    ]


def all_settings(wheels):
    """All settings in order as lists are, found without the package."""
    return [list(places) for places in product(*[range(size) for size in wheels])]


def is_step(one, other):
    """Whether two settings of the same wheels are a step apart."""
    changes = [abs(here - there) for here, there in zip(one, other) if here != there]
    return changes == [1]


def neighbours(wheels, setting):
    """The settings a step away, found without the package."""
    return [other for other in all_settings(wheels) if is_step(setting, other)]


def has_ring(wheels):
    """Whether there is a ring of all settings, by a count of all and of their neighbours.

    Where neither count bars it, the tests of the ring go along one; where
    there are few settings, the tests of the answers search for one, too.
    """
    everything = all_settings(wheels)
    if len(everything) % 2 == 1:
        return False
    return all(len(neighbours(wheels, setting)) >= 2 for setting in everything)


def no_lists():
    """Things of many kinds that are no lists; no number with a point is among them."""
    return [
        None, True, False, 0, 1, 5, -1, 10 ** 5000, "", "2", "2 3", "[2, 3]", b"", b"\x02",
        bytearray(b"\x02"), (), (2,), (2, 3), {}, {0: 2}, {2: 3}, set(), {2}, frozenset([2]),
        range(0), range(3), iter([2, 3]), (size for size in [2, 3]), zip([2], [3]), map(int, "2"),
        1j, Fraction(2), Decimal(2), int, list, len, lambda: [2], object(), Prickly(), Prickly,
        NotImplemented, ..., ValueError("2"), memoryview(b"\x02"), {2: 3}.keys(),
    ]


def no_whole_numbers():
    """Things of many kinds that are no whole numbers."""
    return [
        None, True, False, "", "0", "1", b"", b"\x01", (), (1,), [], [0], [1], [[1]], {}, {0: 0},
        set(), {0}, frozenset(), range(2), iter([1]), (size for size in [1]), 1j, Fraction(1),
        Decimal(1), int, len, lambda: 1, object(), Prickly(), Prickly, NotImplemented, ...,
        ValueError("1"),
    ]


def bad_wheels():
    """Things that are no wheels."""
    itself = []
    itself.append(itself)
    found = no_lists() + [[0], [-1], [2, 0], [0, 2], [2, -3, 2], [-10 ** 5000], [2, 3, 0], [itself], itself]
    for thing in no_whole_numbers():
        found = found + [[thing], [2, thing], [thing, 2], [2, thing, 3]]
    return found


def bad_settings():
    """Things that are no setting of the wheels [2, 1, 3]."""
    found = no_lists() + [
        [], [0], [0, 0], [1, 0], [0, 0, 0, 0], [1, 0, 2, 0], [0] * 100,
        [-1, 0, 0], [0, -1, 0], [0, 0, -1], [2, 0, 0], [0, 1, 0], [0, 0, 3], [2, 1, 3],
        [0, 0, 10 ** 5000], [0, 0, -10 ** 5000], [[0, 0, 0]], [[0], [0], [0]],
    ]
    for thing in no_whole_numbers():
        found = found + [[thing], [thing, 0, 0], [0, thing, 0], [0, 0, thing], [0, 0, 0, thing]]
    return found


def no_texts():
    """Things of many kinds that are no texts; no number with a point is among them."""
    return [thing for thing in no_lists() if not isinstance(thing, str)] + [
        [], [":"], ["2: 0"], [[2], [0]], ([2], [0]), b":", b"2: 0", bytearray(b":"), [2, 3], (":",),
    ]


def some_numbers(many):
    """The first, last and middle numbers below many, and others between."""
    found = [0, 1, 2, 3, many // 2 - 1, many // 2, many // 2 + 1, many // 3, many // 7 * 5,
             many - 4, many - 3, many - 2, many - 1]
    return [number for number in found if 0 <= number < many]


def setting_doors():
    """Each door that takes wheels and a setting, as a function of these two."""
    return [
        near,
        number_of,
        lambda wheels, setting: apart(wheels, setting, [0] * 3),
        lambda wheels, setting: apart(wheels, [0] * 3, setting),
        lambda wheels, setting: apart(wheels, setting, setting),
        ring_number,
        written,
    ]


def wheel_doors():
    """Each door, as a function of the wheels; what else it takes is right for [2, 1, 3]."""
    return [
        settings,
        lambda wheels: near(wheels, [0, 0, 0]),
        lambda wheels: apart(wheels, [0, 0, 0], [1, 0, 2]),
        lambda wheels: setting_of(wheels, 0),
        lambda wheels: number_of(wheels, [0, 0, 0]),
        around,
        lambda wheels: ring_setting(wheels, 0),
        lambda wheels: ring_number(wheels, [0, 0, 0]),
        lambda wheels: written(wheels, [0, 0, 0]),
    ]
