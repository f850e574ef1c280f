"""The refusals, each of which is caught by its own name, by TreeError and by ValueError."""


class TreeError(ValueError):
    pass


class NoTree(TreeError):
    pass


class NoPlace(TreeError):
    pass


class NoRoad(TreeError):
    pass


class NoSpot(TreeError):
    pass


class NoSite(TreeError):
    pass


class NoYard(TreeError):
    pass


class NoWorth(TreeError):
    pass


class NoGift(TreeError):
    pass


class NoText(TreeError):
    pass


class NoKind(TreeError):
    pass


class NoQuestion(TreeError):
    pass


class NoRow(TreeError):
    pass


class NoName(TreeError):
    pass
