"""Narrow offices: each clerk's table as a tree of dealers of two, and a copier for each row.

The places of a tree are numbered from the topmost one, 1, on: where the dockets t, t + step, t + 2 * step and so on
come by, step being 1, 2, 4 and so on and t below it, is place step + t. In the last row t is the docket's own number.
"""

from dockethall.clerks import Copy, Deal
from dockethall.errors import TooMany
from dockethall.notes import lead_names
from dockethall.offices import MOST_CLERKS, Office, spare_names


def width_for(period):
    """The least power of two that is at least the period."""
    width = 1
    while width < period:
        width = width * 2
    return width


def size_for(period):
    return period + width_for(period) - 1


def handled_ahead(state, step, first):
    """How many of the dockets first, first + step and so on come ahead of the docket that the state tells."""
    return (state - first + step - 1) // step


def tree_names(name, period, spare):
    """A name for each place of a tree; the dockets behind the last row begin again at the topmost place."""
    width = width_for(period)
    names = [name, name] + spare[:size_for(period) - 1]
    return names + [name for again in range(width - period)]


def dealers(names, width, state):
    seats = []
    step = 1
    while step < width:
        for first in range(step):
            leads = [names[2 * step + first], names[3 * step + first]]
            seats.append((names[step + first], Deal(2), leads, handled_ahead(state, step, first) % 2))
        step = step * 2
    return seats


def copiers(names, clerk, leads):
    width = width_for(clerk.period())
    return [(names[width + t], Copy(clerk.row(t)), leads, 0) for t in range(clerk.period())]


def tree(office, k, spare):
    """The seats in the stead of a clerk; the topmost one has its name, so that all leads to it stay as they are."""
    clerk = office.clerk(k)
    names = tree_names(office.names()[k], clerk.period(), spare)
    return dealers(names, width_for(clerk.period()), office.begin()[k]) + copiers(names, clerk, lead_names(office, k))


def narrowed(office):
    many = sum([size_for(office.clerk(k).period()) for k in range(office.many())])
    if many > MOST_CLERKS:
        raise TooMany("the narrow office has too many clerks")
    names = office.names()
    spare = spare_names(names + office.doors())
    seats = []
    for k in range(office.many()):
        # Each tree takes fewer spare names than it seats clerks, so those behind all seats so far are free.
        seats.extend(tree(office, k, spare[len(seats):]))
    return Office(seats, [(entry[0], names[entry[1]]) for entry in office.entries()], office.doors())
