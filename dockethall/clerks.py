"""Clerks: tables of rows that go round, in four kinds, and the texts that write them."""

from dockethall.errors import NoClerk
from dockethall.shares import is_within

FIGURES = "0123456789"
MOST_OUTS = 6
MOST_ROWS = 12
MOST_SENT = 9
MOST_FIGURES = 2


def sums_of(one, other):
    return [each + more for each, more in zip(one, other)]


def running_sums(rows):
    """What the first rows send together: of none of them, of one, and so on, of all last."""
    sums = [[0 for each in rows[0]]]
    for row in rows:
        sums.append(sums_of(sums[-1], row))
    return sums


class Clerk:
    """What the four kinds have in common. By itself it is of no kind, and sends nothing."""

    def __init__(self):
        self.keep_rows([[]])

    def keep_rows(self, rows):
        """Called once, when the clerk is made; it copies the rows, so that they stay the caller's own."""
        self.table = [list(row) for row in rows]
        self.heads = running_sums(rows)

    def period(self):
        return len(self.table)

    def outs(self):
        return len(self.table[0])

    def row(self, state):
        return list(self.table[state])

    def whole(self):
        return list(self.heads[self.period()])

    def sent_from_start(self, count):
        """What goes out in so many handlings from state 0 on."""
        rounds = count // self.period()
        head = self.heads[count % self.period()]
        return [rounds * each + more for each, more in zip(self.whole(), head)]

    def sent(self, state, count):
        """Told as a difference of two rows from state 0 on, so that a great count takes no longer than a small one."""
        late = self.sent_from_start(state + count)
        early = self.sent_from_start(state)
        return [after - before for after, before in zip(late, early)]

    def word(self):
        return "clerk"

    def numbers(self):
        return "/".join([row_text(row) for row in self.table])

    def text(self):
        return self.word() + " " + self.numbers()


class Deal(Clerk):
    """Sends each docket by the next out, round and round."""

    def __init__(self, many):
        if not is_within(many, 1, MOST_OUTS):
            raise NoClerk("a deal is made of a whole number from 1 to 6")
        self.keep_rows([single_row(many, state) for state in range(many)])

    def word(self):
        return "deal"

    def numbers(self):
        return str(self.period())


class Bundle(Clerk):
    """Sends one docket for each full bundle that it was given."""

    def __init__(self, size):
        if not is_within(size, 1, MOST_ROWS):
            raise NoClerk("a bundle is made of a whole number from 1 to 12")
        self.keep_rows([[1 if state == size - 1 else 0] for state in range(size)])

    def word(self):
        return "bundle"

    def numbers(self):
        return str(self.period())


class Copy(Clerk):
    """Sends the same row for each docket."""

    def __init__(self, counts):
        if not is_row(counts):
            raise NoClerk("a copy is made of a list of at most 6 whole numbers from 0 to 9")
        self.keep_rows([counts])

    def word(self):
        return "copy"


class Rows(Clerk):
    """Sends by any table of rows."""

    def __init__(self, rows):
        if not is_table(rows):
            raise NoClerk("rows are made of a list of 1 to 12 rows of one length")
        self.keep_rows(rows)

    def word(self):
        return "rows"


def single_row(many, place):
    return [1 if out == place else 0 for out in range(many)]


def is_row(thing):
    if not isinstance(thing, list) or len(thing) > MOST_OUTS:
        return False
    return all([is_within(count, 0, MOST_SENT) for count in thing])


def is_table(thing):
    if not isinstance(thing, list) or not 1 <= len(thing) <= MOST_ROWS:
        return False
    if not all([is_row(row) for row in thing]):
        return False
    return all([len(row) == len(thing[0]) for row in thing])


def is_clerk(thing):
    """A plain Clerk is none, for it is of no kind."""
    return isinstance(thing, (Deal, Bundle, Copy, Rows))


def row_text(row):
    if len(row) == 0:
        return "-"
    return ",".join([str(count) for count in row])


def is_number(text, most):
    """Looked at sign by sign, for Python's own int takes blanks, signs and figures of other scripts too."""
    if not 1 <= len(text) <= most or not all([sign in FIGURES for sign in text]):
        return False
    return text == "0" or text[0] != "0"


def read_number(text):
    if not is_number(text, MOST_FIGURES):
        raise NoClerk("a clerk's number has one or two figures, and no nought ahead")
    return int(text)


def read_row(text):
    if text == "-":
        return []
    return [read_number(part) for part in text.split(",")]


def read_clerk(text):
    if not isinstance(text, str):
        raise NoClerk("a clerk is read of a text")
    parts = text.partition(" ")
    if parts[0] == "deal":
        return Deal(read_number(parts[2]))
    if parts[0] == "bundle":
        return Bundle(read_number(parts[2]))
    if parts[0] == "copy":
        return Copy(read_row(parts[2]))
    if parts[0] == "rows":
        return Rows([read_row(part) for part in parts[2].split("/")])
    raise NoClerk("the first word is no kind of clerk")
