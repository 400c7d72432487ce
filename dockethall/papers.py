"""Papers: prices by which an office comes to rest, or a flow that goes round in it for ever."""

from dockethall.errors import Endless
from dockethall.handling import handle_all, nothing_out
from dockethall.leaving import balanced, least_whole, left_out, shares_of, worth_of
from dockethall.shares import is_whole, parted, share, under


def periods_of(office):
    return [office.clerk(k).period() for k in range(office.many())]


def are_prices(office, thing):
    return len(thing) == office.many() and all([isinstance(price, tuple) and price[0] > 0 for price in thing])


def is_rest(office, prices):
    if not are_prices(office, prices):
        return False
    return all([under(worth_of(shares, prices), price) for shares, price in zip(shares_of(office), prices)])


def is_rounds(count, period):
    return is_whole(count) and count >= 0 and count % period == 0


def is_flow(office, thing):
    if len(thing) != office.many():
        return False
    if not all([is_rounds(count, period) for count, period in zip(thing, periods_of(office))]):
        return False
    return any([count > 0 for count in thing])


def sent_by(office, flow):
    """What comes to each desk of a flow; of whole rounds it is the same from each state."""
    return handle_all(office, [0 for count in flow], flow, nothing_out(office))


def is_unrest(office, flow):
    if not is_flow(office, flow):
        return False
    return all([dockets >= count for dockets, count in zip(sent_by(office, flow), flow)])


def whole_flow(office, flow):
    """The least flow of whole rounds that stands as this one of fractions does."""
    periods = periods_of(office)
    rounds = least_whole([parted(part, share(period)) for part, period in zip(flow, periods)])
    return [count * period for count, period in zip(rounds, periods)]


def paper(office):
    told = left_out(shares_of(office))
    if told[0] == "rest":
        return told
    return ("unrest", whole_flow(office, told[1]))


def worths_by(office, gains):
    """The only worths of which each is its gain and the sum of its shares by their worths, where the office rests."""
    told = balanced(shares_of(office), gains)
    if told[0] == "unrest":
        raise Endless(whole_flow(office, told[1]))
    return told[1]


def prices_of(office):
    return worths_by(office, [share(1) for k in range(office.many())])
