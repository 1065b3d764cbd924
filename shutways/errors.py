"""The refusals of the program: one class for each kind of thing that is none."""


class ShutError(ValueError):
    pass


class NoNet(ShutError):
    pass


class NoLetter(ShutError):
    pass


class NoDeed(ShutError):
    pass


class NoFrame(ShutError):
    pass


class NoOrder(ShutError):
    pass


class NoLine(ShutError):
    pass


class NoCommand(ShutError):
    pass
