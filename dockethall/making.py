"""Offices made of sums: a copier for each entry and each "times", a bundle for each "share"."""

from dockethall.clerks import Bundle, Copy
from dockethall.errors import NoSum, TooMany
from dockethall.offices import MOST_DOORS, MOST_ENTRIES, Office, are_names, is_list, is_name, spare_names
from dockethall.sums import MOST_PARTS, is_sum, parts_of

# An entry's copier has an out for each time that its name stands in the sums.
MOST_TIMES_NAMED = 6


def names_in(parts):
    return [part[1] for part in parts if part[0] == "name"]


def is_door_sum(thing, entries, doors):
    """Whether a thing is a tuple (name of a door, sum) by these entries, behind tuples with these doors."""
    if not isinstance(thing, tuple) or len(thing) != 2:
        return False
    if not is_name(thing[0]) or thing[0] in doors or not is_sum(thing[1]):
        return False
    return all([name in entries for name in names_in(parts_of(thing[1]))])


def check_sums(entries, sums):
    if not are_names(entries, MOST_ENTRIES) or not is_list(sums, MOST_DOORS):
        raise NoSum(None)
    doors = []
    for place, thing in enumerate(sums):
        if not is_door_sum(thing, entries, doors):
            raise NoSum(place)
        doors.append(thing[0])


def check_size(entries, sums):
    parts = []
    for pair in sums:
        parts.extend(parts_of(pair[1]))
    names = names_in(parts)
    if len(parts) > MOST_PARTS or any([names.count(entry) > MOST_TIMES_NAMED for entry in entries]):
        raise TooMany("the sums have too many parts, or a name stands in them too often")


class Plan:
    """The clerks of an office that is being made, each seated behind the one that it leads to."""

    def __init__(self, entries, doors):
        self.spare = spare_names(doors)
        self.seats = []
        self.goals = {}
        for entry in entries:
            self.goals[entry] = []

    def seat(self, clerk, leads, state):
        """Gives back the name that the clerk is called by."""
        name = self.spare[len(self.seats)]
        self.seats.append((name, clerk, leads, state))
        return name

    def bring(self, one, goal):
        """Seats the clerks by which as many dockets come to the goal, a clerk or a door, as the sum tells."""
        if one[0] == "name":
            self.goals[one[1]].append(goal)
        if one[0] == "times":
            self.bring(one[2], self.seat(Copy([one[1]]), [goal], 0))
        if one[0] == "plus":
            self.bring(one[1], goal)
            self.bring(one[2], goal)
        if one[0] == "share":
            # In state c a bundle is as if c dockets had come already.
            self.bring(one[1], self.seat(Bundle(one[3]), [goal], one[2]))

    def entrance(self, entry):
        goals = self.goals[entry]
        return (entry, self.seat(Copy([1 for goal in goals]), goals, 0))


def made(entries, sums):
    check_sums(entries, sums)
    check_size(entries, sums)
    doors = [pair[0] for pair in sums]
    plan = Plan(entries, doors)
    for pair in sums:
        plan.bring(pair[1], pair[0])
    entrances = [plan.entrance(entry) for entry in entries]
    return Office(plan.seats, entrances, doors)
