"""Refusals of what is handed in.

No message shows what was refused: Python does not write out a number of
very many figures, and would fail with an error of its own instead.
"""

from wheelways.errors import BadNumber, BadSetting, BadWheels


def is_whole(thing):
    """Whether it is a whole number; True and False are none."""
    return isinstance(thing, int) and not isinstance(thing, bool)


def check_wheels(wheels):
    """Raise BadWheels unless it is a list of sizes from 1 on."""
    if not isinstance(wheels, list):
        raise BadWheels("wheels are a list of sizes")
    for size in wheels:
        if not is_whole(size) or size < 1:
            raise BadWheels("a size is a whole number from 1 on")


def is_setting(wheels, setting):
    """Whether it is a setting of these wheels."""
    if not isinstance(setting, list) or len(setting) != len(wheels):
        return False
    for size, place in zip(wheels, setting):
        if not is_whole(place) or not 0 <= place < size:
            return False
    return True


def check_setting(wheels, setting):
    """Raise BadSetting unless it is a setting of these wheels."""
    if not is_setting(wheels, setting):
        raise BadSetting("a setting is a list with a number for each wheel, below its size")


def check_number(number, many):
    """Raise BadNumber unless it is a whole number from 0 to one less than many."""
    if not is_whole(number) or not 0 <= number < many:
        raise BadNumber("a number is from 0 to one less than there are settings")
