"""The refusals of the program, a class each."""


class TowerError(ValueError):
    pass


class BadRule(TowerError):
    pass


class BadState(TowerError):
    pass


class BadPeg(TowerError):
    pass


class BadMove(TowerError):
    pass


class BadNumber(TowerError):
    pass


class Unlike(TowerError):
    pass


class BadText(TowerError):
    pass
