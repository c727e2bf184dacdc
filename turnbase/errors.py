"""The refusals of the program: one class for each, all under TurnError."""


class TurnError(ValueError):
    pass


class NoTurning(TurnError):
    pass


class NoText(TurnError):
    pass


class NoRecipe(TurnError):
    pass


class NoGroup(TurnError):
    pass


class NoNumber(TurnError):
    pass


class NotIn(TurnError):
    pass


class TooMany(TurnError):
    pass


class NoThing(TurnError):
    pass


class NotPart(TurnError):
    pass


class NoName(TurnError):
    pass


class NoLine(TurnError):
    pass
