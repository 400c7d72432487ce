"""Offices held against one another: whether they answer alike, or a shortest row of dockets at which they part."""

from dockethall.errors import Unlike
from dockethall.papers import prices_of
from dockethall.rooms import Found, docket_by, first_room


def entry_names(office):
    return [entry[0] for entry in office.entries()]


def check_comparable(one, other):
    if entry_names(one) != entry_names(other) or one.doors() != other.doors():
        raise Unlike("the offices have not the same entries and doors")
    prices_of(one)
    prices_of(other)


def parting(one, other, most=400):
    """Pairs are gone through in the order in which they are found, so that the first parting is by a shortest row."""
    check_comparable(one, other)
    found = Found(most)
    found.place_of((first_room(one), first_room(other)))
    rows = [[]]
    place = 0
    while place < len(found.order):
        pair = found.order[place]
        for entry, twin in zip(one.entries(), other.entries()):
            ours = docket_by(one, pair[0], entry[1])
            theirs = docket_by(other, pair[1], twin[1])
            row = rows[place] + [entry[0]]
            if ours[0] != theirs[0]:
                return row
            if found.place_of((ours[1], theirs[1])) == len(rows):
                rows.append(row)
        place = place + 1
    return None
