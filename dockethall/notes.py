"""Notes: offices written as rows of words, and read again."""

from dockethall.clerks import read_clerk, read_number
from dockethall.errors import NoClerk, NoText
from dockethall.offices import Office, is_name

ROW_KINDS = ("door", "clerk", "entry")


def lead_names(office, k):
    """A door's lead is below 0, so both lists are asked by a number from 0 on."""
    names = office.names()
    doors = office.doors()
    return [names[lead] if lead >= 0 else doors[-1 - lead] for lead in office.leads(k)]


def clerk_row(office, k):
    words = ["clerk", office.names()[k], office.clerk(k).text(), "at", str(office.begin()[k]), "to"]
    return " ".join(words + lead_names(office, k))


def written(office):
    names = office.names()
    door_rows = ["door " + door for door in office.doors()]
    clerk_rows = [clerk_row(office, k) for k in range(office.many())]
    entry_rows = ["entry " + entry[0] + " " + names[entry[1]] for entry in office.entries()]
    return "; ".join(door_rows + clerk_rows + entry_rows)


def read_door(words):
    if len(words) != 2 or not is_name(words[1]):
        return None
    return words[1]


def read_entry(words):
    if len(words) != 3 or not is_name(words[1]) or not is_name(words[2]):
        return None
    return (words[1], words[2])


def read_seat(words):
    """Words are told by their places alone, for a clerk may be called by any word of a row."""
    if len(words) < 7 or words[4] != "at" or words[6] != "to":
        return None
    leads = words[7:]
    if not is_name(words[1]) or not all([is_name(lead) for lead in leads]):
        return None
    try:
        # A state is written as a clerk's numbers are.
        return (words[1], read_clerk(words[2] + " " + words[3]), leads, read_number(words[5]))
    except NoClerk:
        return None


def read_thing(words):
    """The door, the clerk's tuple or the entry's tuple that a row writes; None where it writes none."""
    if words[0] == "door":
        return read_door(words)
    if words[0] == "clerk":
        return read_seat(words)
    if words[0] == "entry":
        return read_entry(words)
    return None


def read_things(rows):
    """A list of things for each kind of row."""
    things = [[] for kind in ROW_KINDS]
    latest = 0
    for at, row in enumerate(rows):
        words = row.split(" ")
        thing = read_thing(words)
        if thing is None:
            raise NoText(at)
        place = ROW_KINDS.index(words[0])
        if place < latest:
            raise NoText(at)
        latest = place
        things[place].append(thing)
    return things


def read(text):
    if not isinstance(text, str):
        raise NoText(0)
    things = read_things(text.split("; "))
    return Office(things[1], things[2], things[0])
