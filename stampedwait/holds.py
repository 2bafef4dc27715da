"""Which dealings hold which keys of one house, and who waits for whom."""

from stampedwait.errors import Off

READ = "read"
WRITE = "write"
HELD = "held"
WAITS = "waits"


def bars(mode, other_mode):
    return WRITE in (mode, other_mode)


def is_enough(has, mode):
    """Whether a key that is held so (None: not held) is held as is asked for."""
    return has in (mode, WRITE)


class Holds:
    """Younger ones give way, elder and pledged ones are waited for: no ring comes of it."""

    def __init__(self):
        self.held = {}
        self.ages = {}
        self.askings = {}
        self.offs = {}
        self.bound = {}

    def ask(self, dealing, key, mode, *, age=None):
        if dealing in self.offs or dealing in self.bound:
            raise Off(dealing)
        if dealing not in self.ages:
            self.ages[dealing] = dealing if age is None else age
        mine = self.held.get(dealing, {})
        if is_enough(mine.get(key), mode):
            self.wait_no_more(dealing)
            return (HELD, [])
        off = [other for other in self.barring(dealing, key, mode) if not self.outlasts(other, dealing)]
        for other in off:
            self.call_off(other)
        if self.barring(dealing, key, mode):
            self.askings[dealing] = (key, mode)
            return (WAITS, off)
        self.wait_no_more(dealing)
        mine[key] = mode
        self.held[dealing] = mine
        return (HELD, off)

    def barring(self, dealing, key, mode):
        """All others that hold the key so that it can't be held, sorted."""
        return sorted([other for other in self.held if other != dealing and key in self.held[other]
                       and bars(mode, self.held[other][key])])

    def outlasts(self, other, dealing):
        """Whether the other one is waited for and not called off."""
        if other in self.bound:
            return True
        return (self.ages[other], other) < (self.ages[dealing], dealing)

    def call_off(self, dealing):
        self.held.pop(dealing, None)
        self.wait_no_more(dealing)
        self.offs[dealing] = True

    def wait_no_more(self, dealing):
        self.askings.pop(dealing, None)

    def pledge(self, dealing):
        self.bound[dealing] = True
        self.wait_no_more(dealing)

    def keep(self, dealing, some):
        mine = self.held.get(dealing, {})
        for key in some:
            # to hold a key for writing is to hold it for reading, too
            if not is_enough(mine.get(key), some[key]):
                mine[key] = some[key]
        self.held[dealing] = mine
        self.pledge(dealing)

    def free(self, dealing, *, forget=False):
        self.held.pop(dealing, None)
        self.ages.pop(dealing, None)
        self.bound.pop(dealing, None)
        self.wait_no_more(dealing)
        if forget:
            self.offs.pop(dealing, None)

    def of(self, dealing):
        mine = self.held.get(dealing, {})
        return {key: mine[key] for key in sorted(list(mine))}

    def waiting(self):
        told = {}
        for dealing in sorted(list(self.askings)):
            key, mode = self.askings[dealing]
            others = [other for other in self.barring(dealing, key, mode) if self.outlasts(other, dealing)]
            if others:
                told[dealing] = others
        return told

    def called_off(self):
        return sorted(list(self.offs))

    def pledged(self):
        return sorted(list(self.bound))

    def twin(self):
        other = Holds()
        other.held = {dealing: dict(self.held[dealing]) for dealing in self.held}
        other.ages = dict(self.ages)
        other.askings = dict(self.askings)
        other.offs = dict(self.offs)
        other.bound = dict(self.bound)
        return other
