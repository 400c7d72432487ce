"""Handlings: dockets sent on one by one, in any order, or all that lie there at once."""

from dockethall.errors import NoDocket
from dockethall.shares import is_within


def able(desks):
    return [k for k, dockets in enumerate(desks) if dockets > 0]


def nothing_out(office):
    return [0 for door in office.doors()]


def lay(desks, out, leads, dockets):
    """Changes desks and out by what goes by each of the leads."""
    for lead, count in zip(leads, dockets):
        if lead >= 0:
            desks[lead] = desks[lead] + count
        else:
            out[-1 - lead] = out[-1 - lead] + count


def handle(office, states, desks, out, k):
    """Changes the three lists, so that a long row of handlings copies them once; they are never a caller's own."""
    clerk = office.clerk(k)
    desks[k] = desks[k] - 1
    lay(desks, out, office.leads(k), clerk.row(states[k]))
    states[k] = (states[k] + 1) % clerk.period()


def handle_all(office, states, desks, out):
    """Handles at once all that lies on the desks, and tells what came to them by it; states and out are changed."""
    came = [0 for dockets in desks]
    for k in able(desks):
        clerk = office.clerk(k)
        lay(came, out, office.leads(k), clerk.sent(states[k], desks[k]))
        states[k] = (states[k] + desks[k]) % clerk.period()
    return came


def handled(office, states, desks, k):
    if not is_within(k, 0, office.many() - 1) or desks[k] < 1:
        raise NoDocket("no docket lies there")
    states_then = list(states)
    desks_then = list(desks)
    out = nothing_out(office)
    handle(office, states_then, desks_then, out, k)
    return (states_then, desks_then, out)


def picked(ready, picks, number):
    """Which of those able is next, for a handling by its number."""
    if picks is None or len(picks) == 0:
        return ready[0]
    pick = picks[number % len(picks)]
    return ready[pick % len(ready)]


def served(office, states, desks, picks=None, most=2000):
    states_now = list(states)
    desks_now = list(desks)
    out = nothing_out(office)
    log = []
    ready = able(desks_now)
    while len(ready) > 0 and len(log) < most:
        k = picked(ready, picks, len(log))
        handle(office, states_now, desks_now, out, k)
        log.append(k)
        ready = able(desks_now)
    return (states_now, desks_now, out, log)
