"""A ring of all settings of wheels, where there is one, and the numbers on it.

The first even wheel stands for rows, the settings of the other wheels, as
they follow each other on their way, for columns. The ring begins in the
corner, goes row by row through all columns but the first one, to and fro,
and comes home along the first one: as the count of rows is even, the last
row ends beside it.
"""

from wheelways.answers import Around, Dead, Odd
from wheelways.checks import check_number, check_setting, check_wheels
from wheelways.errors import NoRing
from wheelways.forth import number_of, setting_of
from wheelways.wheels import settings


def around(wheels):
    """Whether there is a ring of all settings, or why there is none."""
    check_wheels(wheels)
    if Around().shows(wheels):
        return Around()
    # No other setting has fewer neighbours than the one of noughts alone.
    dead = Dead([0] * len(wheels))
    if dead.shows(wheels):
        return dead
    return Odd()


def ring_setting(wheels, number):
    """The setting that has this number on the ring."""
    at = _even_wheel(wheels)
    others = _without(wheels, at)
    rows = wheels[at]
    columns = settings(others)
    check_number(number, rows * columns)
    row, column = _spot(rows, columns, number)
    setting = setting_of(others, column)
    setting.insert(at, row)
    return setting


def ring_number(wheels, setting):
    """The number that this setting has on the ring."""
    at = _even_wheel(wheels)
    check_setting(wheels, setting)
    others = _without(wheels, at)
    row = setting[at]
    column = number_of(others, _without(setting, at))
    return _spot_number(wheels[at], settings(others), row, column)


def _even_wheel(wheels):
    """Where the first even wheel stands, if there is a ring; else BadWheels or NoRing."""
    check_wheels(wheels)
    if not Around().shows(wheels):
        raise NoRing("these wheels have no ring of all settings")
    at = 0
    while wheels[at] & 1 == 1:
        at = at + 1
    return at


def _without(numbers, at):
    """The numbers but for one, as a new list."""
    return numbers[:at] + numbers[at + 1:]


def _spot(rows, columns, number):
    """The row and the column of a number on the ring."""
    many = rows * columns
    # On the way home, and in the corner, as many steps are left as rows.
    left = (many - number) % many
    if left < rows:
        return left, 0
    row, beside = setting_of([rows, columns - 1], number - 1)
    return row, beside + 1


def _spot_number(rows, columns, row, column):
    """The number of a row and a column on the ring."""
    many = rows * columns
    if column == 0:
        return (many - row) % many
    return number_of([rows, columns - 1], [row, column - 1]) + 1
