"""Books: what all that lies in an office is worth, whatever was handled of it."""

from dockethall.handling import nothing_out
from dockethall.leaving import door_shares, worth_of
from dockethall.papers import prices_of, worths_by
from dockethall.shares import added, floor_of, share, taken, under


def whole_shares(counts):
    return [share(count) for count in counts]


def sum_of(fractions):
    return worth_of([share(1) for each in fractions], fractions)


def least_of(fractions):
    least = fractions[0]
    for each in fractions:
        if under(each, least):
            least = each
    return least


def worths_behind(office, k, worths, door_worths):
    """What a docket is worth behind each out of clerk k."""
    return [worths[lead] if lead >= 0 else door_worths[-1 - lead] for lead in office.leads(k)]


def lean(office, k, state, worths, door_worths):
    """As many means as there are rows ahead of the state, less these rows, taken together before they are reckoned."""
    clerk = office.clerk(k)
    period = clerk.period()
    ahead = clerk.sent(0, state)
    shares = [share(state * whole - period * sent, period) for whole, sent in zip(clerk.whole(), ahead)]
    return worth_of(shares, worths_behind(office, k, worths, door_worths))


def leans(office, k, worths, door_worths):
    return [lean(office, k, state, worths, door_worths) for state in range(office.clerk(k).period())]


def least_leans(office, worths, door_worths):
    return [least_of(leans(office, k, worths, door_worths)) for k in range(office.many())]


def book(office, worths, door_worths, states, desks, out):
    dockets = worth_of(whole_shares(desks + out), worths + door_worths)
    leaning = [lean(office, k, state, worths, door_worths) for k, state in enumerate(states)]
    return added(dockets, sum_of(leaning))


def bound(office, states, desks):
    """At rest the book is at least the sum of the least leans, and each handling makes it less by 1."""
    prices = prices_of(office)
    nothing = nothing_out(office)
    door_worths = whole_shares(nothing)
    least = sum_of(least_leans(office, prices, door_worths))
    return floor_of(taken(book(office, prices, door_worths, states, desks, nothing), least))


def shares_at(office, door):
    return worths_by(office, [shares[door] for shares in door_shares(office)])
