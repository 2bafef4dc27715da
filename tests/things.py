"""Things of many kinds, none of them one that any point asks for."""


class Hostile:
    """Can't be compared, measured, hashed or shown."""

    def __eq__(self, other):
        raise AssertionError("compared")

    def __lt__(self, other):
        raise AssertionError("compared")

    def __le__(self, other):
        raise AssertionError("compared")

    def __gt__(self, other):
        raise AssertionError("compared")

    def __ge__(self, other):
        raise AssertionError("compared")

    def __len__(self):
        raise AssertionError("measured")

    def __iter__(self):
        raise AssertionError("iterated")

    def __hash__(self):
        raise AssertionError("hashed")

    def __repr__(self):
        raise AssertionError("shown")

    __str__ = __repr__


class Yielding:
    """Is like to everything and has a length."""

    def __eq__(self, other):
        return True

    def __len__(self):
        return 2

    def __getitem__(self, at):
        return 1


BIG = 10 ** 30 - 1

# no whole number, share, drift, stamp, key or worth among them
ODD = [
    None, True, False, "", "A", "1", "abcdefg", "a b", "*", "\n", b"", b"a", 1.0, 0.5,
    float("nan"), float("inf"), 1j, [], [1], [1, 2], [1, 2, 3], ["a"], [[]], (), ("a",),
    (True,), (None,), ("1", "2"), (1, "2"), (1, 2.0), (1, None), (True, 2), (1, [2]),
    (1, 2, "3"), (1, False, 0), ((1, 2),), ((1,), (2,)), (1, 2, 3, 4, "5"), (1, 2, 3, 4, 5),
    {}, {"a": 1}, {1: 2}, set(), {1, 2}, frozenset(), range(2), object(), int, tuple, len,
    Hostile(), Yielding(), (Hostile(), Hostile()), (Hostile(),), [Hostile()], [None] * 50,
    (((((((((1,),),),),),),),),),
]
