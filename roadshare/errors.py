"""The refusals of the program, one class for each."""


class ShareError(ValueError):
    pass


class NoFraction(ShareError):
    pass


class NoTree(ShareError):
    pass


class NoPlace(ShareError):
    pass


class NoName(ShareError):
    pass


class NoPrice(ShareError):
    pass


class NoSharing(ShareError):
    pass


class TooMany(ShareError):
    pass


class NoDeed(ShareError):
    pass


class NoText(ShareError):
    pass
