"""Worths by keys, each with the stamp by which it was written."""

from stampedwait.errors import Gone, NoKey, NoNumber, NoStamp, NoWorth
from stampedwait.times import is_row_of_whole, is_stamp, is_whole

LETTERS = "abcdefghijklmnopqrstuvwxyz"
MOST_LETTERS = 6
MOST_FIELDS = 4


def is_key(thing):
    if not isinstance(thing, str) or not 1 <= len(thing) <= MOST_LETTERS:
        return False
    return all([sign in LETTERS for sign in thing])


def is_worth(thing):
    return is_row_of_whole(thing, 1, MOST_FIELDS)


def refuse_no_key(thing):
    if not is_key(thing):
        raise NoKey(thing)


def refuse_no_time(thing):
    if not is_whole(thing):
        raise NoNumber("no time")


def many_up_to(row, time):
    """How many of a row's stamps have a time that is up to this one."""
    return len([stamp for stamp, worth in row if stamp[0] <= time])


class Shelf:
    """For each key a row of (stamp, worth), stamps rising."""

    def __init__(self):
        self.rows = {}
        self.let_go_to = None

    def row_of(self, key):
        # the kept row itself: for the methods below, never told
        refuse_no_key(key)
        return self.rows.get(key, [])

    def put(self, key, stamp, worth):
        row = self.row_of(key)
        if not is_stamp(stamp):
            raise NoStamp("no stamp")
        if row and row[-1][0] >= stamp:
            raise NoStamp("the key has a stamp as great or greater")
        if not is_worth(worth):
            raise NoWorth("no worth")
        row.append((stamp, worth))
        self.rows[key] = row

    def let_go(self, time):
        refuse_no_time(time)
        for key in list(self.rows):
            row = self.rows[key]
            # the last one up to the time is still what is read at it
            self.rows[key] = row[max(0, many_up_to(row, time) - 1):]
        if self.let_go_to is None or time > self.let_go_to:
            self.let_go_to = time

    def versions(self, key):
        return list(self.row_of(key))

    def all_keys(self):
        return sorted(list(self.rows))

    def newest(self, key):
        row = self.row_of(key)
        return row[-1][1] if row else None

    def at(self, key, time):
        row = self.row_of(key)
        refuse_no_time(time)
        self.refuse_gone(time)
        many = many_up_to(row, time)
        return row[many - 1][1] if many else None

    def gone_to(self):
        """The greatest time up to which was let go, or None."""
        return self.let_go_to

    def refuse_gone(self, time):
        if self.let_go_to is not None and time < self.let_go_to:
            raise Gone(self.let_go_to)

    def twin(self):
        other = Shelf()
        other.rows = {key: list(self.rows[key]) for key in self.rows}
        other.let_go_to = self.let_go_to
        return other

    def __len__(self):
        return len([pair for row in self.rows.values() for pair in row])
