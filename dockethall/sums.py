"""Sums with whole shares: tuples, one within another, their values, and the texts that write them."""

from dockethall.clerks import is_number
from dockethall.errors import NoSum
from dockethall.offices import is_name
from dockethall.shares import is_within

MOST_PARTS = 40
MOST_TIMES = 9
MOST_BOTTOM = 12
MOST_FIGURES = 2
PLUS = " + "


def has_form(thing):
    """Whether a thing is a sum, but for the sums that stand in it."""
    if not isinstance(thing, tuple) or len(thing) < 2 or not isinstance(thing[0], str):
        return False
    if thing[0] == "name":
        return len(thing) == 2 and is_name(thing[1])
    if thing[0] == "times":
        return len(thing) == 3 and is_within(thing[1], 0, MOST_TIMES)
    if thing[0] == "plus":
        return len(thing) == 3
    if thing[0] == "share":
        return len(thing) == 4 and is_within(thing[3], 1, MOST_BOTTOM) and is_within(thing[2], 0, thing[3] - 1)
    return False


def sums_in(one):
    """The sums that stand straight in one."""
    if one[0] == "times":
        return [one[2]]
    if one[0] == "plus":
        return [one[1], one[2]]
    if one[0] == "share":
        return [one[1]]
    return []


def parts_of(thing):
    """All parts of a sum, itself first; None where a thing is none.

    Without recursion, and no further than a sum may go, for a thing may be of any depth and breadth.
    """
    parts = [thing]
    seen = 0
    while seen < len(parts):
        if len(parts) > MOST_PARTS or not has_form(parts[seen]):
            return None
        parts.extend(sums_in(parts[seen]))
        seen = seen + 1
    return parts


def is_sum(thing):
    return parts_of(thing) is not None


def value(one, amounts):
    if one[0] == "name":
        return amounts[one[1]]
    if one[0] == "times":
        return one[1] * value(one[2], amounts)
    if one[0] == "plus":
        return value(one[1], amounts) + value(one[2], amounts)
    return (value(one[1], amounts) + one[2]) // one[3]


def shown_within(one, bracketed):
    """A sum's text, in brackets where its word is one of these."""
    if one[0] in bracketed:
        return "(" + shown(one) + ")"
    return shown(one)


def shown(one):
    if one[0] == "name":
        return one[1]
    if one[0] == "times":
        return str(one[1]) + " " + shown_within(one[2], ("times", "plus"))
    if one[0] == "plus":
        return shown(one[1]) + PLUS + shown_within(one[2], ("plus",))
    return "[" + shown(one[1]) + " : " + str(one[2]) + " / " + str(one[3]) + "]"


def last_plus(text):
    """The place of the last plus that stands in no brackets, or -1: what is left of it is one sum, however long."""
    depth = 0
    place = -1
    for at, sign in enumerate(text):
        if sign in "([":
            depth = depth + 1
        if sign in ")]":
            depth = depth - 1
        if depth == 0 and text.startswith(PLUS, at):
            place = at
    return place


def unbracketed(text):
    if text.startswith("(") and text.endswith(")"):
        return text[1:-1]
    return text


def read_share(text, depth):
    """Of what stands in the square brackets; the last colon is the share's own, for no sum follows it."""
    halves = text.rpartition(" : ")
    numbers = halves[2].partition(" / ")
    if not is_number(numbers[0], MOST_FIGURES) or not is_number(numbers[2], MOST_FIGURES):
        raise NoSum(None)
    return ("share", read_part(halves[0], depth), int(numbers[0]), int(numbers[2]))


def read_part(text, depth):
    """What a text writes if it writes a sum; whether it does, to the sign, only its sum shows."""
    if depth > MOST_PARTS:
        raise NoSum(None)
    place = last_plus(text)
    if place >= 0:
        right = unbracketed(text[place + len(PLUS):])
        return ("plus", read_part(text[:place], depth + 1), read_part(right, depth + 1))
    if text[1:2] == " " and is_number(text[0], 1):
        return ("times", int(text[0]), read_part(unbracketed(text[2:]), depth + 1))
    if text.startswith("[") and text.endswith("]"):
        return read_share(text[1:-1], depth + 1)
    return ("name", text)


def read_sum(text):
    if not isinstance(text, str):
        raise NoSum(None)
    one = read_part(text, 1)
    if not is_sum(one) or shown(one) != text:
        raise NoSum(None)
    return one
