"""Which dealings hold which keys of one house, and who waits for whom."""

from stampedwait.errors import Off

READ = "read"
WRITE = "write"
HELD = "held"
WAITS = "waits"


def is_way(thing):
    return isinstance(thing, str) and thing in (READ, WRITE)


def bars(mode, other_mode):
    return mode == WRITE or other_mode == WRITE


def is_enough(has, mode):
    """Whether a key that is held so (None: not held) is held as is asked for."""
    return has == mode or has == WRITE


class Holds:
    """Younger ones give way, elder and pledged ones are waited for: no ring comes of it."""

    def __init__(self):
        # what a dealing holds is never changed, another dict is put in its stead: so it is lent as it is
        self.held = {}
        self.ages = {}
        self.askings = {}
        self.offs = {}
        self.bound = {}
        # whether others have these dicts, too
        self.lent = False

    def make_own(self):
        """Ahead of a change."""
        if self.lent:
            self.held = dict(self.held)
            self.ages = dict(self.ages)
            self.askings = dict(self.askings)
            self.offs = dict(self.offs)
            self.bound = dict(self.bound)
            self.lent = False

    def ask(self, dealing, key, mode, *, age=None):
        if dealing in self.offs or dealing in self.bound:
            raise Off(dealing)
        self.make_own()
        if dealing not in self.ages:
            self.ages[dealing] = dealing if age is None else age
        if is_enough(self.way_of(dealing, key), mode):
            self.wait_no_more(dealing)
            return (HELD, [])
        barring = self.barring(dealing, key, mode)
        off = [other for other in barring if not self.outlasts(other, dealing)]
        for other in off:
            self.call_off(other)
        if len(off) < len(barring):
            self.askings[dealing] = (key, mode)
            return (WAITS, off)
        self.wait_no_more(dealing)
        self.hold_so(dealing, key, mode)
        return (HELD, off)

    def hold_so(self, dealing, key, mode):
        mine = dict(self.held.get(dealing, {}))
        mine[key] = mode
        self.held[dealing] = mine

    def way_of(self, dealing, key):
        """The way in which it holds a key, or None."""
        mine = self.held.get(dealing)
        return None if mine is None else mine.get(key)

    def barring(self, dealing, key, mode):
        """All others that hold the key so that it can't be held, sorted."""
        return sorted([other for other in self.held if other != dealing and key in self.held[other]
                       and bars(mode, self.held[other][key])])

    def outlasts(self, other, dealing):
        """Whether the other one is waited for and not called off."""
        if other in self.bound:
            return True
        return (self.ages[other], other) < (self.ages[dealing], dealing)

    def call_off(self, dealing):
        self.held.pop(dealing, None)
        self.wait_no_more(dealing)
        self.offs[dealing] = True

    def wait_no_more(self, dealing):
        self.askings.pop(dealing, None)

    def pledge(self, dealing):
        self.make_own()
        self.bound[dealing] = True
        self.wait_no_more(dealing)

    def keep(self, dealing, some):
        self.make_own()
        mine = dict(self.held.get(dealing, {}))
        for key in some:
            # to hold a key for writing is to hold it for reading, too
            if not is_enough(mine.get(key), some[key]):
                mine[key] = some[key]
        self.held[dealing] = mine
        self.pledge(dealing)

    def free(self, dealing, *, forget=False):
        self.make_own()
        self.held.pop(dealing, None)
        self.ages.pop(dealing, None)
        self.bound.pop(dealing, None)
        self.wait_no_more(dealing)
        if forget:
            self.offs.pop(dealing, None)

    def of(self, dealing):
        mine = self.held.get(dealing, {})
        return {key: mine[key] for key in sorted(list(mine))}

    def waiting(self):
        told = {}
        for dealing in sorted(list(self.askings)):
            key, mode = self.askings[dealing]
            others = [other for other in self.barring(dealing, key, mode) if self.outlasts(other, dealing)]
            if others:
                told[dealing] = others
        return told

    def is_off(self, dealing):
        """Whether it was called off."""
        return dealing in self.offs

    def called_off(self):
        return sorted(list(self.offs))

    def pledged(self):
        return sorted(list(self.bound))

    def parts(self):
        """All that it keeps, for another one or to be put back: lent, so that a change leaves it as it is."""
        self.lent = True
        return (self.held, self.ages, self.askings, self.offs, self.bound)

    def put_parts(self, parts):
        self.held, self.ages, self.askings, self.offs, self.bound = parts
        self.lent = True

    def twin(self):
        other = Holds()
        other.put_parts(self.parts())
        return other
