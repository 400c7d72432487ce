"""Offices: clerks at desks, entries that lead to them, and doors."""

from dockethall.clerks import is_clerk
from dockethall.errors import NoOffice
from dockethall.shares import is_within

LETTERS = "abcdefghijklmnopqrstuvwxyz"
MOST_SIGNS = 6
MOST_CLERKS = 60
MOST_ENTRIES = 6
MOST_DOORS = 6


def is_name(thing):
    if not isinstance(thing, str) or not 1 <= len(thing) <= MOST_SIGNS:
        return False
    return all([sign in LETTERS for sign in thing])


def is_list(thing, most):
    return isinstance(thing, list) and 1 <= len(thing) <= most


def all_unlike(names):
    return len(set(names)) == len(names)


def are_names(thing, most):
    return is_list(thing, most) and all([is_name(name) for name in thing]) and all_unlike(thing)


def spare_names(taken):
    """More names than an office has clerks, none of them taken."""
    pairs = []
    for first in LETTERS:
        pairs.extend([first + second for second in LETTERS])
    return [name for name in pairs if name not in taken]


def are_texts(thing, many):
    return isinstance(thing, list) and len(thing) == many and all([isinstance(text, str) for text in thing])


def is_seat(thing):
    """A seat is a tuple (name, clerk, leads, state); whom its leads name can only be looked at with all names known."""
    if not isinstance(thing, tuple) or len(thing) != 4:
        return False
    if not is_name(thing[0]) or not is_clerk(thing[1]):
        return False
    return are_texts(thing[2], thing[1].outs()) and is_within(thing[3], 0, thing[1].period() - 1)


def are_seats(thing, doors):
    if not is_list(thing, MOST_CLERKS) or not all([is_seat(seat) for seat in thing]):
        return False
    return all_unlike([seat[0] for seat in thing] + doors)


def is_entry(thing, names):
    if not isinstance(thing, tuple) or len(thing) != 2:
        return False
    return is_name(thing[0]) and is_name(thing[1]) and thing[1] in names


def are_entries(thing, names):
    if not is_list(thing, MOST_ENTRIES) or not all([is_entry(entry, names) for entry in thing]):
        return False
    return all_unlike([entry[0] for entry in thing])


def places_of(names, doors):
    """The number that a lead to each name has: a clerk's from 0 up, a door's from -1 down."""
    places = {}
    for k, name in enumerate(names):
        places[name] = k
    for d, door in enumerate(doors):
        places[door] = -1 - d
    return places


def leads_to(seat, places):
    """Where the leads of a seat go; a text that names nothing goes nowhere, which is None."""
    return [places.get(text) for text in seat[2]]


class Office:
    """Keeps copies of what it is made of, and hands out copies of what it keeps."""

    def __init__(self, clerks, entries, doors):
        if not are_names(doors, MOST_DOORS):
            raise NoOffice("doors")
        if not are_seats(clerks, doors):
            raise NoOffice("clerks")
        names = [seat[0] for seat in clerks]
        if not are_entries(entries, names):
            raise NoOffice("entries")
        places = places_of(names, doors)
        ways = [leads_to(seat, places) for seat in clerks]
        if any([None in way for way in ways]):
            raise NoOffice("leads")
        self.clerk_names = names
        self.door_names = list(doors)
        self.entry_places = [(entry[0], places[entry[1]]) for entry in entries]
        self.staff = [seat[1] for seat in clerks]
        self.first_states = [seat[3] for seat in clerks]
        self.ways = ways

    def names(self):
        return list(self.clerk_names)

    def doors(self):
        return list(self.door_names)

    def entries(self):
        return list(self.entry_places)

    def many(self):
        return len(self.clerk_names)

    def clerk(self, k):
        return self.staff[k]

    def begin(self):
        return list(self.first_states)

    def leads(self, k):
        return list(self.ways[k])
