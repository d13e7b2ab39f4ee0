"""How many settings wheels have, which are neighbours, and how far two are apart."""

from wheelways.checks import check_setting, check_wheels


def settings(wheels):
    """How many settings these wheels have."""
    check_wheels(wheels)
    many = 1
    for size in wheels:
        many = many * size
    return many


def near(wheels, setting):
    """The neighbours of a setting, in order as lists are."""
    check_wheels(wheels)
    check_setting(wheels, setting)
    # The earlier the wheel, the lower is the list with its number lowered and
    # the higher the one with its number raised: so the raised ones run backwards.
    found = []
    for at in range(len(wheels)):
        if setting[at] > 0:
            found.append(_stepped(setting, at, -1))
    for at in reversed(range(len(wheels))):
        if setting[at] < wheels[at] - 1:
            found.append(_stepped(setting, at, 1))
    return found


def _stepped(setting, at, step):
    """The setting with one number changed by a step, as a new list."""
    other = list(setting)
    other[at] = other[at] + step
    return other


def apart(wheels, one, other):
    """How many steps lead from one setting to the other at the least."""
    check_wheels(wheels)
    check_setting(wheels, one)
    check_setting(wheels, other)
    steps = 0
    for here, there in zip(one, other):
        steps = steps + abs(here - there)
    return steps
