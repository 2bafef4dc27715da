"""Worths by keys, each with the stamp by which it was written."""

from stampedwait.errors import Gone, NoKey, NoNumber, NoStamp, NoWorth
from stampedwait.times import is_row_of_whole, is_stamp, is_whole

LETTERS = "abcdefghijklmnopqrstuvwxyz"
MOST_LETTERS = 6
MOST_FIELDS = 4


def is_key(thing):
    if not isinstance(thing, str) or not 1 <= len(thing) <= MOST_LETTERS:
        return False
    return thing.strip(LETTERS) == ""


def is_worth(thing):
    return is_row_of_whole(thing, 1, MOST_FIELDS)


def refuse_no_key(thing):
    if not is_key(thing):
        raise NoKey(thing)


def refuse_no_time(thing):
    if not is_whole(thing):
        raise NoNumber("no time")


def many_up_to(row, time):
    """How many of a row's stamps have a time that is up to this one."""
    least = 0
    most = len(row)
    # mostly the newest worth is asked for; else the row is halved, for its times rise
    if most == 0 or row[-1][0][0] <= time:
        return most
    while least < most:
        middle = (least + most) // 2
        if row[middle][0][0] <= time:
            least = middle + 1
        else:
            most = middle
    return least


class Shelf:
    """For each key a row of (stamp, worth), stamps rising."""

    def __init__(self):
        self.rows = {}
        self.let_go_to = None
        # whether others have these rows, too, and of which keys the row is its own all the same
        self.lent = False
        self.own_rows = {}

    def row_of(self, key):
        # the kept row itself: for the methods below, never told
        refuse_no_key(key)
        return self.rows.get(key, [])

    def make_own(self):
        """Ahead of a change: the rows are its own, but what stands in them is still lent."""
        if self.lent:
            self.rows = dict(self.rows)
            self.own_rows = {}
            self.lent = False

    def put(self, key, stamp, worth):
        row = self.row_of(key)
        if not is_stamp(stamp):
            raise NoStamp("no stamp")
        if row and row[-1][0] >= stamp:
            raise NoStamp("the key has a stamp as great or greater")
        if not is_worth(worth):
            raise NoWorth("no worth")
        self.make_own()
        if key not in self.own_rows:
            row = list(row)
            self.rows[key] = row
            self.own_rows[key] = True
        row.append((stamp, worth))

    def let_go(self, time):
        refuse_no_time(time)
        self.make_own()
        for key in list(self.rows):
            # the last one up to the time is still what is read at it
            elder = many_up_to(self.rows[key], time) - 1
            if elder > 0:
                self.rows[key] = self.rows[key][elder:]
                self.own_rows[key] = True
        if self.let_go_to is None or time > self.let_go_to:
            self.let_go_to = time

    def versions(self, key):
        return list(self.row_of(key))

    def all_keys(self):
        return sorted(list(self.rows))

    def newest(self, key):
        row = self.row_of(key)
        return row[-1][1] if row else None

    def at(self, key, time):
        row = self.row_of(key)
        refuse_no_time(time)
        self.refuse_gone(time)
        many = many_up_to(row, time)
        return row[many - 1][1] if many else None

    def gone_to(self):
        """The greatest time up to which was let go, or None."""
        return self.let_go_to

    def refuse_gone(self, time):
        if self.let_go_to is not None and time < self.let_go_to:
            raise Gone(self.let_go_to)

    def parts(self):
        """All that it keeps, for another one or to be put back: lent, so that a change leaves it as it is."""
        self.lent = True
        return (self.rows, self.let_go_to)

    def put_parts(self, parts):
        self.rows, self.let_go_to = parts
        self.lent = True

    def twin(self):
        other = Shelf()
        other.put_parts(self.parts())
        return other

    def __len__(self):
        return len([pair for row in self.rows.values() for pair in row])
