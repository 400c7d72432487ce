"""Shares of what clerks send on, and tables of shares out of which one clerk after the other is left.

A clerk is left out by sending what would come to its desk straight on to where its own dockets go in the end. That can
be done while it sends less than one docket back to its own desk for each that it handles; the first one that does not
shows a flow, and where all can be left out the table comes to rest.

It is done in whole numbers, as Bareiss does it, for bringing fractions to lowest terms at each step would take far
longer. Row c holds, all times a scale that makes it whole, at place c the 1 less the share of c to itself, and at each
other place the share to there, below 0. Every number that comes of these rows is one of their minors, so that dividing
by the own number of the clerk that was left out before never leaves a rest.
"""

from dockethall.shares import greatest_divisor, share


def sent_round(office, k):
    """What clerk k sends in its whole round, by the numbers of its leads, of which several may be the same."""
    dockets = {}
    for lead, count in zip(office.leads(k), office.clerk(k).whole()):
        dockets[lead] = dockets.get(lead, 0) + count
    return dockets


def shares_to(office, k, places):
    dockets = sent_round(office, k)
    return [share(dockets.get(place, 0), office.clerk(k).period()) for place in places]


def shares_of(office):
    places = list(range(office.many()))
    return [shares_to(office, k, places) for k in range(office.many())]


def door_shares(office):
    places = [-1 - d for d in range(len(office.doors()))]
    return [shares_to(office, k, places) for k in range(office.many())]


def common_bottom(fractions):
    """The least whole number above 0 that makes each of them whole when it is timed by it."""
    least = 1
    for each in fractions:
        least = least * (each[1] // greatest_divisor(least, each[1]))
    return least


def worth_of(shares, worths):
    """The sum of each share times its worth, brought to lowest terms only once, for that takes long."""
    parts = [(part[0] * worth[0], part[1] * worth[1]) for part, worth in zip(shares, worths) if part[0] != 0]
    bottom = common_bottom(parts)
    return share(sum([part[0] * (bottom // part[1]) for part in parts]), bottom)


def least_whole(fractions):
    """Of fractions from 0 on, not all 0: the least whole numbers that stand to one another as they do."""
    bottom = common_bottom(fractions)
    tops = [each[0] * (bottom // each[1]) for each in fractions]
    divisor = 0
    for top in tops:
        divisor = greatest_divisor(divisor, top)
    return [top // divisor for top in tops]


def whole_row(shares, gain, k, scale):
    """Row k in whole numbers; behind it the gain by which a worth is more than its sum, times the scale too."""
    row = [-each[0] * (scale // each[1]) for each in shares]
    row[k] = row[k] + scale
    return row + [gain[0] * (scale // gain[1])]


def without(row, leaver, k, last):
    """A row when clerk k, whose row is leaver, is left out; its place k is kept, for flows are reckoned from it."""
    own = leaver[k]
    to_leaver = row[k]
    later = [(own * each - to_leaver * other) // last for each, other in zip(row[k + 1:], leaver[k + 1:])]
    return row[:k + 1] + later


def worths_in(rows, last):
    """With all left out: the last worth first, and by it those ahead of it, all times last."""
    many = len(rows)
    tops = [0 for row in rows]
    for k in range(many - 1, -1, -1):
        later = sum([rows[k][d] * tops[d] for d in range(k + 1, many)])
        tops[k] = (last * rows[k][many] - later) // rows[k][k]
    return [share(top, last) for top in tops]


def flow_in(rows, scales, k, last):
    """With clerk k keeping all that comes to it: its own flow, and what those left out must handle for it."""
    counts = [0 for row in rows]
    counts[k] = last
    for e in range(k - 1, -1, -1):
        later = sum([counts[c] * rows[c][e] for c in range(e + 1, k + 1)])
        counts[e] = -later // rows[e][e]
    flow = [share(count * scale) for count, scale in zip(counts, scales)]
    return [share(each) for each in least_whole(flow)]


def balanced(table, gains):
    """("rest", worths), of which each is its gain and the sum of its shares by their worths, or ("unrest", flow)."""
    scales = [common_bottom(shares + [gain]) for shares, gain in zip(table, gains)]
    rows = [whole_row(table[k], gains[k], k, scale) for k, scale in enumerate(scales)]
    last = 1
    for k in range(len(table)):
        if rows[k][k] <= 0:
            return ("unrest", flow_in(rows, scales, k, last))
        ahead = rows[:k + 1]
        rows = ahead + [without(row, rows[k], k, last) for row in rows[k + 1:]]
        last = rows[k][k]
    return ("rest", worths_in(rows, last))


def left_out(table):
    return balanced(table, [share(1) for shares in table])
