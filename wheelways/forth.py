"""A way through all settings of any wheels, and the numbers on it.

The last wheel turns from its one end to the other, then the wheels ahead
of it take one step together on their own way, and it turns back, and so on.
So a wheel is on its way back just when the wheels ahead of it stand at an
odd number of their way.
"""

from wheelways.checks import check_number, check_setting, check_wheels
from wheelways.wheels import settings


def setting_of(wheels, number):
    """The setting that has this number on the way."""
    many = settings(wheels)
    check_number(number, many)
    backwards = []
    ahead = number
    for size in reversed(wheels):
        ahead, turned = divmod(ahead, size)
        backwards.append(_mirrored(size, turned, ahead))
    return backwards[::-1]


def number_of(wheels, setting):
    """The number that this setting has on the way."""
    check_wheels(wheels)
    check_setting(wheels, setting)
    number = 0
    for size, place in zip(wheels, setting):
        number = number * size + _mirrored(size, place, number)
    return number


def _mirrored(size, place, ahead):
    """The place counted from the wheel's other end if the number ahead is odd."""
    # Asked by the last bit, as a remainder takes long for a long number.
    if ahead & 1:
        return size - 1 - place
    return place
