"""What several test files need: things of any kind, refusals held to their class, and whole numbers without chance."""

from dockethall import errors

REFUSALS = (
    "NoShare", "NoClerk", "NoOffice", "NoText", "NoDocket", "Endless", "TooLong", "TooMany", "Unlike", "NoSum",
    "NoRow", "NoName", "NoCount",
)
VALUES = {"NoOffice": "part", "NoText": "at", "Endless": "flow", "NoSum": "place"}

HUGE = 10 ** 6000


class Stubborn:
    """Answers nothing at all that is asked of it."""

    def refuse(self, *others):
        raise RuntimeError("asked a thing that answers nothing")

    __eq__ = __lt__ = __le__ = __gt__ = __ge__ = __len__ = __iter__ = __getitem__ = __hash__ = __bool__ = refuse
    __str__ = __repr__ = __int__ = __index__ = __contains__ = refuse


def odd_things():
    """Things that are no whole number and no text; lists and tuples are left to the caller where they may stand."""
    return [True, False, None, 1.0, 0.5, float("nan"), 1j, b"a", bytearray(b"a"), {}, {"a": 1}, {1}, frozenset(),
            range(2), object(), Stubborn(), int, len, Ellipsis]


def listed_things():
    return [[], [1], [[]], ["a"], (), (1,), (1, 2), ("a",)]


def texts():
    return ["", "1", "a", "-", " ", "\n"]


def refused(case, name, call, *handed):
    """Checks that the call is refused with this class and no other one, and gives the error back."""
    wanted = getattr(errors, name)
    try:
        call(*handed)
    except Exception as error:
        caught = error
    else:
        case.fail(f"{name} was not raised")
    case.assertIs(type(caught), wanted)
    case.assertIsInstance(caught, errors.HallError)
    case.assertIsInstance(caught, ValueError)
    return caught


def numbers_in_turn(many, least, most, seed=1):
    """The same whole numbers at every run."""
    told = []
    for step in range(many):
        seed = (seed * 6364136223846793005 + 1442695040888963407) % 2 ** 64
        wide = 0
        for part in range(4):
            seed = (seed * 6364136223846793005 + 1442695040888963407) % 2 ** 64
            wide = wide * 2 ** 56 + seed // 2 ** 8
        told.append(least + wide % (most - least + 1))
    return told
