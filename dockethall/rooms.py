"""Rooms: the states at rest, and the answers by which single dockets lead from one to another."""

from dockethall.errors import TooMany
from dockethall.papers import prices_of
from dockethall.tallies import come_to_rest

MOST_LISTS = 400


class Found:
    """Rooms, or pairs of rooms, in the order in which they were come to; each is counted once."""

    def __init__(self, most):
        self.most = most
        self.order = []
        self.places = {}

    def place_of(self, room):
        if room not in self.places:
            if len(self.order) >= self.most:
                raise TooMany("there are more rooms than are allowed")
            self.places[room] = len(self.order)
            self.order.append(room)
        return self.places[room]


def first_room(office):
    return tuple(office.begin())


def docket_by(office, room, k):
    """The answer to one docket on the desk of clerk k, and the room that it leads to."""
    desks = [1 if clerk == k else 0 for clerk in range(office.many())]
    told = come_to_rest(office, room, desks, MOST_LISTS)
    return (told[2], tuple(told[1]))


def move(office, room, k, found):
    told = docket_by(office, room, k)
    return (told[0], found.place_of(told[1]))


def rooms(office, most=200):
    prices_of(office)
    found = Found(most)
    found.place_of(first_room(office))
    moves = []
    while len(moves) < len(found.order):
        room = found.order[len(moves)]
        moves.append([move(office, room, entry[1], found) for entry in office.entries()])
    return (found.order, moves)
