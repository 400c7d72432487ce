"""The refusals of the program, each straight under HallError."""


class HallError(ValueError):
    """Any refusal."""


class NoShare(HallError):
    """What is handed in makes no fraction."""


class NoClerk(HallError):
    """What is handed in makes no clerk."""


class NoOffice(HallError):
    """What is handed in makes no office; part is the first thing that is not as told."""

    def __init__(self, part):
        self.part = part


class NoText(HallError):
    """A text writes no office; at is the number of its first wrong row."""

    def __init__(self, at):
        self.at = at


class NoDocket(HallError):
    """No docket lies where one is to be handled."""


class Endless(HallError):
    """The office never comes to rest; flow is a paper of unrest."""

    def __init__(self, flow):
        # The list stays the caller's own, so that changing it later does not change what is told here.
        self.flow = list(flow) if isinstance(flow, list) else flow


class TooLong(HallError):
    """More lists are needed than are allowed."""


class TooMany(HallError):
    """More clerks, rooms, pairs or parts are needed than are allowed."""


class Unlike(HallError):
    """Two offices have not the same entries and doors."""


class NoSum(HallError):
    """What is handed in is no sum; place is the number of the first wrong one, or None."""

    def __init__(self, place):
        self.place = place


class NoRow(HallError):
    """The desk knows no such row."""


class NoName(HallError):
    """A name is none, or nothing is kept by it."""


class NoCount(HallError):
    """A count of dockets is none, or too great."""
