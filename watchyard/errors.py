"""The refusals: all stand straight under WatchError, none under another one."""


class WatchError(ValueError):
    pass


class NoFraction(WatchError):
    pass


class NoPoint(WatchError):
    pass


class NoAsk(WatchError):
    pass


class NoNet(WatchError):
    def __init__(self, row):
        self.row = row


class NoWait(WatchError):
    def __init__(self, at):
        self.at = at


class NoAct(WatchError):
    def __init__(self, at):
        self.at = at


class NoMove(WatchError):
    def __init__(self, at):
        self.at = at
