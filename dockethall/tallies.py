"""Tallies: how many dockets each clerk handles till the office rests, told without stepping.

Each next list of counts is more than the one before by what the dockets that came in the last round send on. So it is
enough to hand on, round by round, what lies on the desks; a list is the same as its next one where nothing lies there.
"""

from dockethall.clerks import sums_of
from dockethall.errors import TooLong
from dockethall.handling import able, handle_all, nothing_out
from dockethall.papers import prices_of


def come_to_rest(office, states, desks, most):
    """A tally of an office that is known to rest, so that its paper need not be asked for at each docket."""
    counts = [0 for dockets in desks]
    states_now = list(states)
    desks_now = list(desks)
    out = nothing_out(office)
    for number in range(most):
        counts = sums_of(counts, desks_now)
        desks_now = handle_all(office, states_now, desks_now, out)
        if len(able(desks_now)) == 0:
            return (counts, states_now, out)
    raise TooLong("the office does not rest in so many lists")


def tally(office, states, desks, most=400):
    prices_of(office)
    return come_to_rest(office, states, desks, most)
