"""Handlings: dockets sent on one by one, in any order."""

from dockethall.errors import NoDocket
from dockethall.shares import is_within


def able(desks):
    return [k for k, dockets in enumerate(desks) if dockets > 0]


def nothing_out(office):
    return [0 for door in office.doors()]


def handle(office, states, desks, out, k):
    """Changes the three lists, so that a long row of handlings copies them once; they are never a caller's own."""
    clerk = office.clerk(k)
    desks[k] = desks[k] - 1
    for lead, dockets in zip(office.leads(k), clerk.row(states[k])):
        if lead >= 0:
            desks[lead] = desks[lead] + dockets
        else:
            out[-1 - lead] = out[-1 - lead] + dockets
    states[k] = (states[k] + 1) % clerk.period()


def handled(office, states, desks, k):
    if not is_within(k, 0, office.many() - 1) or desks[k] < 1:
        raise NoDocket("no docket lies there")
    states_then = list(states)
    desks_then = list(desks)
    out = nothing_out(office)
    handle(office, states_then, desks_then, out, k)
    return (states_then, desks_then, out)


def picked(ready, picks, number):
    """Which of those able is next, for a handling by its number."""
    if picks is None or len(picks) == 0:
        return ready[0]
    pick = picks[number % len(picks)]
    return ready[pick % len(ready)]


def served(office, states, desks, picks=None, most=2000):
    states_now = list(states)
    desks_now = list(desks)
    out = nothing_out(office)
    log = []
    ready = able(desks_now)
    while len(ready) > 0 and len(log) < most:
        k = picked(ready, picks, len(log))
        handle(office, states_now, desks_now, out, k)
        log.append(k)
        ready = able(desks_now)
    return (states_now, desks_now, out, log)
