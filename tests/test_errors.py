import unittest

from stampedwait import errors
from tests.things import BIG, ODD

UNDER = {
    "WaitError": ValueError,
    "NoBounds": errors.WaitError, "NoText": errors.WaitError, "NoNumber": errors.WaitError,
    "NoDrift": errors.WaitError, "NoShare": errors.WaitError, "NoPace": errors.WaitError,
    "NoStamp": errors.WaitError, "NoWorth": errors.WaitError, "NoLetter": errors.WaitError,
    "NoForm": errors.WaitError, "NoDeed": errors.WaitError, "NoHistory": errors.WaitError,
    "NoRow": errors.WaitError,
    "NoKey": KeyError, "NoName": KeyError,
    "Gone": LookupError, "Elsewhere": LookupError,
    "NoCopy": IndexError, "NoDealing": IndexError,
    "NoHold": RuntimeError, "NoHead": RuntimeError, "Waits": RuntimeError, "Early": RuntimeError,
    "Off": RuntimeError, "Sure": RuntimeError, "Unset": RuntimeError, "Bare": RuntimeError,
}
FIELDS = {
    "NoBounds": ("low", "high"), "NoText": ("row",), "NoKey": ("key",), "NoName": ("name",),
    "Gone": ("time",), "Elsewhere": ("key", "house"), "NoCopy": ("copy",),
    "NoDealing": ("dealing",), "NoHold": ("key",), "NoHead": ("house",), "Waits": ("time",),
    "Early": ("time",), "Off": ("dealing",), "Sure": ("stamp",),
}
TEXTS = sorted(set(UNDER) - set(FIELDS))
SOME = ODD + [0, -1, BIG, "some words", (1, 2, 3), "key"]


def made(name, thing):
    """One of the class, of as many things as it is made of."""
    return getattr(errors, name)(*[thing for field in FIELDS.get(name, ("text",))])


class Classes(unittest.TestCase):
    def test_all_are_there_and_no_other(self):
        found = {name for name, thing in vars(errors).items() if isinstance(thing, type)}
        self.assertEqual(found, set(UNDER))

    def test_each_is_straight_under_the_class_told(self):
        for name, above in UNDER.items():
            self.assertEqual(getattr(errors, name).__bases__, (above,), name)

    def test_none_is_under_another_one(self):
        for name in UNDER:
            for other in set(UNDER) - {name, "WaitError"}:
                self.assertFalse(issubclass(getattr(errors, name), getattr(errors, other)))

    def test_which_classes_of_python_they_stand_under(self):
        for name, above in UNDER.items():
            kind = getattr(errors, name)
            root = ValueError if above is errors.WaitError else above
            self.assertTrue(issubclass(kind, root), name)
            self.assertEqual(issubclass(kind, errors.WaitError), root is ValueError, name)
            for other in (ValueError, KeyError, IndexError, RuntimeError):
                self.assertEqual(issubclass(kind, other), other is root, name)
            self.assertEqual(issubclass(kind, LookupError), root in (KeyError, IndexError, LookupError))

    def test_each_is_raised_and_caught_as_itself(self):
        for name in UNDER:
            error = made(name, "some words")
            with self.assertRaises(getattr(errors, name)) as caught:
                raise error
            self.assertIs(caught.exception, error)

    def test_none_is_caught_as_another_one(self):
        for name in set(UNDER) - {"WaitError"}:
            others = tuple(getattr(errors, other) for other in set(UNDER) - {name, "WaitError"})
            try:
                raise made(name, "some words")
            except others:
                self.fail(name)
            except getattr(errors, name):
                pass


class Fields(unittest.TestCase):
    def test_fields_are_as_handed_in_by_places(self):
        for name, fields in FIELDS.items():
            for thing in SOME:
                things = [thing, [thing]][:len(fields)]
                error = getattr(errors, name)(*things)
                for field, handed in zip(fields, things):
                    self.assertIs(getattr(error, field), handed)

    def test_fields_are_as_handed_in_by_names(self):
        for name, fields in FIELDS.items():
            for thing in SOME:
                things = dict(zip(fields, [thing, [thing]]))
                error = getattr(errors, name)(**things)
                for field in fields:
                    self.assertIs(getattr(error, field), things[field])

    def test_made_of_a_text(self):
        for name in TEXTS:
            for thing in SOME:
                error = getattr(errors, name)(thing)
                self.assertIs(error.text, thing)
                self.assertIs(error.args[0], thing)

    def test_two_of_a_class_have_each_its_own_fields(self):
        first, second = errors.Elsewhere("a", 1), errors.Elsewhere("b", 2)
        self.assertEqual((first.key, first.house, second.key, second.house), ("a", 1, "b", 2))


if __name__ == "__main__":
    unittest.main()
