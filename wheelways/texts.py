"""Settings with their wheels, written as texts and read again."""

from wheelways.checks import check_setting, check_wheels, is_setting
from wheelways.errors import BadText, BadWheels

# What has more figures is neither written nor read.
MOST_FIGURES = 60


def written(wheels, setting):
    """The text of wheels and a setting of them."""
    check_wheels(wheels)
    for size in wheels:
        # Compared, as Python does not write out a number of some thousands of figures.
        if size >= 10 ** 60:
            raise BadWheels("a size that is written has at most sixty figures")
    check_setting(wheels, setting)
    sizes = " ".join([str(size) for size in wheels])
    numbers = "".join([f" {place}" for place in setting])
    return f"{sizes}:{numbers}"


def read(text):
    """The wheels and the setting that are written as just this text."""
    if not isinstance(text, str):
        raise BadText("what is read is a text")
    sizes, colon, numbers = text.partition(":")
    if colon == "":
        raise BadText("a colon stands behind the sizes")
    wheels = []
    if sizes != "":
        wheels = _numbers(" " + sizes)
    setting = _numbers(numbers)
    if not is_setting(wheels, setting):
        raise BadText("a number for each size, below it, stands behind the colon")
    return wheels, setting


def _numbers(text):
    """The numbers of a text with a blank ahead of each of them."""
    first, *words = text.split(" ")
    if first != "":
        raise BadText("a blank stands ahead of each number")
    return [_number(word) for word in words]


def _number(word):
    """The number that is written as just this word."""
    # Measured ahead, as Python does not read a number of some thousands of figures.
    if len(word) > MOST_FIGURES or not word.isascii() or not word.isdigit():
        raise BadText("a number is written in figures, at most sixty")
    number = int(word)
    if str(number) != word:
        raise BadText("a number is written without a needless nought")
    return number
