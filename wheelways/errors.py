"""What is raised where something handed in is refused."""


class WheelError(ValueError):
    """Any refusal of this package."""


class BadWheels(WheelError):
    """No list of sizes from 1 on."""


class BadSetting(WheelError):
    """No setting of the wheels."""


class BadNumber(WheelError):
    """No number that a setting has."""


class NoRing(WheelError):
    """There is no ring of all settings."""


class BadText(WheelError):
    """No text that a setting is written as."""
