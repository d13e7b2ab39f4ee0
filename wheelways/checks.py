"""Refusals of what is handed in.

No message shows what was refused: Python does not write out a number of
very many figures, and would fail with an error of its own instead.
"""

from wheelways.errors import BadNumber, BadSetting, BadWheels


def is_whole(thing):
    """Whether it is a whole number; True and False are none."""
    return isinstance(thing, int) and not isinstance(thing, bool)


def check_wheels(wheels):
    """Raise BadWheels unless it is a list of sizes from 1 on."""
    if not isinstance(wheels, list):
        raise BadWheels("wheels are a list of sizes")
    for size in wheels:
        if not is_whole(size) or size < 1:
            raise BadWheels("a size is a whole number from 1 on")


def check_setting(wheels, setting):
    """Raise BadSetting unless it is a setting of these wheels."""
    if not isinstance(setting, list):
        raise BadSetting("a setting is a list of numbers")
    if len(setting) != len(wheels):
        raise BadSetting("a setting has a number for each wheel")
    for size, place in zip(wheels, setting):
        if not is_whole(place) or not 0 <= place < size:
            raise BadSetting("a number of a setting is from 0 to one less than the size")


def check_number(number, many):
    """Raise BadNumber unless it is a whole number from 0 to one less than many."""
    if not is_whole(number) or not 0 <= number < many:
        raise BadNumber("a number is from 0 to one less than there are settings")
