"""Whether there is a ring of all settings of wheels, or why there is none.

There is one just where two wheels or more can turn and one of these has an
even size: wheelways.around tells it. Where fewer can turn, the setting of
noughts alone has fewer than two neighbours; where all sizes are odd, so is
the count of settings.
"""

from wheelways.checks import is_setting


class Answer:
    """What is told of a ring of all settings."""


class Around(Answer):
    """There is a ring of all settings."""

    def shows(self, wheels):
        """Whether these wheels have such a ring."""
        turning = [size for size in wheels if size > 1]
        return len(turning) > 1 and not _all_odd(turning)


class Dead(Answer):
    """A setting has fewer than two neighbours."""

    def __init__(self, setting):
        self.setting = list(setting)

    def shows(self, wheels):
        """Whether it is a setting of these wheels, with fewer than two neighbours."""
        return is_setting(wheels, self.setting) and _steps_from(wheels, self.setting) < 2


class Odd(Answer):
    """The count of settings is odd."""

    def shows(self, wheels):
        """Whether these wheels have an odd count of settings."""
        return _all_odd(wheels)


def _all_odd(sizes):
    """Whether all sizes are odd, and so is what they come to when multiplied."""
    return all(size & 1 == 1 for size in sizes)


def _steps_from(wheels, setting):
    """How many steps can be made from a setting: so many neighbours it has."""
    steps = 0
    for size, place in zip(wheels, setting):
        if place > 0:
            steps = steps + 1
        if place < size - 1:
            steps = steps + 1
    return steps
