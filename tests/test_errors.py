from tests.helpers import Case
from tiedrings import errors

FIELDS = {
    "BadBook": ["place"], "BadPlace": ["place"], "BadSize": ["size"],
    "BadNumber": ["number"], "BadRule": ["row"], "BadNest": [],
    "NotTied": ["entry", "place"], "BadText": [], "BadLine": ["line"],
    "BadRooms": ["place"], "BadWishes": ["place"], "BadFolk": ["place"],
    "BadStep": [], "BadChoice": ["places"], "NoWorld": [], "BadDeed": [],
    "Full": [], "NotFree": [],
}


class ErrorsTest(Case):
    def test_fields_are_the_arguments(self):
        for name, fields in FIELDS.items():
            with self.subTest(name):
                kind = getattr(errors, name)
                worths = list(range(7, 7 + len(fields)))
                self.assertEqual(vars(kind(*worths)), dict(zip(fields, worths)))
                self.assertEqual(vars(kind(**dict(zip(fields, worths)))), dict(zip(fields, worths)))

    def test_bad_choice_keeps_its_tuple(self):
        self.assertEqual(errors.BadChoice((1, 2)).places, (1, 2))
        self.assertEqual(errors.BadChoice(()).places, ())

    def test_bases(self):
        self.assertEqual(errors.TiedError.__bases__, (ValueError,))
        for name in FIELDS:
            base = errors.BadDeed if name in ("Full", "NotFree") else errors.TiedError
            self.assertEqual(getattr(errors, name).__bases__, (base,), name)

    def test_can_be_raised_and_caught_by_base(self):
        for name, fields in FIELDS.items():
            with self.assertRaises(errors.TiedError):
                raise getattr(errors, name)(*fields)
            with self.assertRaises(ValueError):
                raise getattr(errors, name)(*fields)

    def test_there_are_no_other_errors(self):
        named = {
            name for name, value in vars(errors).items()
            if isinstance(value, type) and issubclass(value, Exception)
        }
        self.assertEqual(named, set(FIELDS) | {"TiedError"})
