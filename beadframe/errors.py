"""The refusals: one class for each, all of them under FrameError."""


class FrameError(ValueError):
    pass


class NoLayout(FrameError):
    pass


class TooGreat(FrameError):
    def __init__(self, rod):
        self.rod = rod


class NoStanding(FrameError):
    pass


class Stuck(FrameError):
    # at is None for a move alone, that stands in no row
    def __init__(self, rod, at):
        self.rod = rod
        self.at = at


class NoMove(FrameError):
    pass


class Below(FrameError):
    pass


class NoDivisor(FrameError):
    pass


class Between(FrameError):
    pass


class NoRow(FrameError):
    def __init__(self, row):
        self.row = row


class Spoilt(FrameError):
    def __init__(self, row, why):
        self.row = row
        self.why = why


class TooLong(FrameError):
    pass


class NoBack(FrameError):
    pass


class NoName(FrameError):
    pass


class NoSay(FrameError):
    pass
