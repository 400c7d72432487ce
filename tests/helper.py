"""What several test files need: things of any kind, refusals held to their class, and numbers and offices without chance."""

from fractions import Fraction

from dockethall import errors
from dockethall.clerks import Bundle, Copy, Deal, Rows
from dockethall.desk import Desk
from dockethall.offices import Office
from dockethall.papers import paper

REFUSALS = (
    "NoShare", "NoClerk", "NoOffice", "NoText", "NoDocket", "Endless", "TooLong", "TooMany", "Unlike", "NoSum",
    "NoRow", "NoName", "NoCount",
)
VALUES = {"NoOffice": "part", "NoText": "at", "Endless": "flow", "NoSum": "place"}

HUGE = 10 ** 6000


class Stubborn:
    """Answers nothing at all that is asked of it."""

    def refuse(self, *others):
        raise RuntimeError("asked a thing that answers nothing")

    __eq__ = __lt__ = __le__ = __gt__ = __ge__ = __len__ = __iter__ = __getitem__ = __hash__ = __bool__ = refuse
    __str__ = __repr__ = __int__ = __index__ = __contains__ = refuse


def odd_things():
    """Things that are no whole number and no text; lists and tuples are left to the caller where they may stand."""
    return [True, False, None, 1.0, 0.5, float("nan"), 1j, b"a", bytearray(b"a"), {}, {"a": 1}, {1}, frozenset(),
            range(2), object(), Stubborn(), int, len, Ellipsis]


def listed_things():
    return [[], [1], [[]], ["a"], (), (1,), (1, 2), ("a",)]


def texts():
    return ["", "1", "a", "-", " ", "\n"]


def refused(case, name, call, *handed):
    """Checks that the call is refused with this class and no other one, and gives the error back."""
    wanted = getattr(errors, name)
    try:
        call(*handed)
    except Exception as error:
        caught = error
    else:
        case.fail(f"{name} was not raised")
    case.assertIs(type(caught), wanted)
    case.assertIsInstance(caught, errors.HallError)
    case.assertIsInstance(caught, ValueError)
    return caught


def numbers_in_turn(many, least, most, seed=1):
    """The same whole numbers at every run."""
    told = []
    for step in range(many):
        seed = (seed * 6364136223846793005 + 1442695040888963407) % 2 ** 64
        wide = 0
        for part in range(4):
            seed = (seed * 6364136223846793005 + 1442695040888963407) % 2 ** 64
            wide = wide * 2 ** 56 + seed // 2 ** 8
        told.append(least + wide % (most - least + 1))
    return told


PICKS = [None, [], [0], [1], [2, 0], [5, 4, 3, 2, 1], [10 ** 18], [0, 10 ** 18, 1, 7], [10 ** 18 - 1, 10 ** 17 + 3, 2]]
PICKS += [numbers_in_turn(many, 0, 10 ** 18, seed=many) for many in (3, 17, 64, 200)]


def often(log, many):
    return [log.count(k) for k in range(many)]


def plain(number):
    """A fraction of Python's own, a whole number or a text such as 2/3, as the program's tuple."""
    number = Fraction(number)
    return (number.numerator, number.denominator)


def all_told(one):
    """Everything that an office tells, the clerks as texts."""
    staff = [(one.clerk(k).text(), one.leads(k)) for k in range(one.many())]
    return (one.names(), one.doors(), one.entries(), one.many(), one.begin(), staff)


def made_up_clerk(numbers, busy):
    kind = next(numbers) % 4
    if kind == 0:
        return Deal(1 + next(numbers) % 6)
    if kind == 1:
        return Bundle(1 + next(numbers) % 12)
    outs = next(numbers) % 4
    if kind == 2:
        return Copy([next(numbers) % busy for out in range(outs)])
    return Rows([[next(numbers) % busy for out in range(outs)] for row in range(1 + next(numbers) % 5)])


def made_up(seed, many, busy=3):
    """The clerks, entries and doors of an office of all four kinds, the same at every run; the busier, the less rest."""
    numbers = iter(numbers_in_turn(60 * many + 60, 0, 10 ** 9, seed))
    names = [first + second for first in "abcdefgh" for second in "abcdefgh"][:many]
    doors = ["out", "lost", "to", "door", "entry", "at"][:1 + next(numbers) % 6]
    seats = []
    for name in names:
        clerk = made_up_clerk(numbers, busy)
        leads = []
        for out in range(clerk.outs()):
            targets = doors if next(numbers) % 3 == 0 else names
            leads.append(targets[next(numbers) % len(targets)])
        seats.append((name, clerk, leads, next(numbers) % clerk.period()))
    entries = [(entry, names[next(numbers) % many]) for entry in ["in", "out", "aa"][:1 + next(numbers) % 3]]
    return (seats, entries, doors)


def office_of(*rows):
    """An office of rows (clerk, leads), the clerks called a, b, c and so on, all in state 0, with the doors x and y."""
    names = "abcdefghijklmnopqrstuvw"
    seats = [(names[k], clerk, leads.split(), 0) for k, (clerk, leads) in enumerate(rows)]
    return Office(seats, [("in", "a")], ["x", "y"])


def resting(many, seeds, busy=3):
    """Of made up offices of so many clerks those that have a paper of rest."""
    offices = [Office(*made_up(seed, many, busy)) for seed in seeds]
    return [one for one in offices if paper(one)[0] == "rest"]


def unresting(many, seeds, busy=4):
    offices = [Office(*made_up(seed, many, busy)) for seed in seeds]
    return [one for one in offices if paper(one)[0] == "unrest"]


def states_of(one):
    """The beginning, all first states, all last ones, and some others."""
    periods = [one.clerk(k).period() for k in range(one.many())]
    numbers = numbers_in_turn(one.many(), 0, 10 ** 9, one.many())
    return [one.begin(), [0] * one.many(), [period - 1 for period in periods],
            [number % period for number, period in zip(numbers, periods)]]


def long_way(ahead, ring, gate=1, outer=1, state=0):
    """Seats that hand a docket on alone, to the door x, ahead + outer * (ring * gate + 1) times from state 0.

    It goes by some desks to a ring, in which it goes round till the gate at its end lets it by, in its last state; then
    by the outer gate, which sends it to the ring again but in its last state.
    """
    names = [first + second for first in "abcdefgh" for second in "abcdefgh"]
    seats = [(names[k], Copy([1]), [names[k + 1]], 0) for k in range(ahead + ring - 1)]
    last, over = names[ahead + ring - 1], names[ahead + ring]
    seats.append((last, Rows([[1, 0]] * (gate - 1) + [[0, 1]]), [names[ahead], over], state))
    seats.append((over, Rows([[1, 0]] * (outer - 1) + [[0, 1]]), [names[ahead], "x"], 0))
    return seats


def counter(value, *sizes):
    """Bundles in a row, of as many rooms as their sizes make together; value of them are over at the beginning."""
    names = "abcdef"[:len(sizes)] + "x"
    seats = []
    for k, size in enumerate(sizes):
        seats.append((names[k], Bundle(size), [names[k + 1]], value % size))
        value = value // size
    return Office(seats, [("in", "a")], ["x"])


def changed(told):
    """Spoils a list that was told, and the lists in it."""
    for each in told:
        if isinstance(each, list):
            changed(each)
    told.append(99)
    told[0] = 98


def made_up_sum(numbers, parts, names):
    """A sum of just so many parts, made of what an iterator of numbers tells."""
    if parts == 1:
        return ("name", names[next(numbers) % len(names)])
    kind = next(numbers) % 4
    if kind == 0 and parts > 2:
        left = 1 + next(numbers) % (parts - 2)
        return ("plus", made_up_sum(numbers, left, names), made_up_sum(numbers, parts - 1 - left, names))
    if kind == 1:
        return ("times", next(numbers) % 10, made_up_sum(numbers, parts - 1, names))
    if kind == 2 and parts > 2:
        return ("plus", made_up_sum(numbers, parts - 2, names), made_up_sum(numbers, 1, names))
    bottom = 1 + next(numbers) % 12
    return ("share", made_up_sum(numbers, parts - 1, names), next(numbers) % bottom, bottom)


def within(inner, *outers):
    """A sum with others about it, from the inside out; each is told by a tuple without its sum."""
    for outer in outers:
        inner = (outer[0], inner) + outer[1:] if outer[0] == "share" else outer + (inner,)
    return inner


def row_of(one, many, left=True):
    """One sum so often, with a plus between each two, leaning to the left or to the right."""
    told = one
    for number in range(many - 1):
        told = ("plus", told, one) if left else ("plus", one, told)
    return told


def told_by(desk):
    """All that a desk keeps: its names, and what each office is, what lies in it and what went out of it."""
    names = desk.say("names")
    if names == "-":
        return []
    words = ("show", "states", "desks", "out")
    return [[name] + [desk.say(f"{word} {name}") for word in words] for name in names.split(" ")]


def at_desk(*rows):
    """A new desk that was told these rows."""
    desk = Desk()
    for row in rows:
        desk.say(row)
    return desk
