import unittest

from smallchange import errors

FIELDS = {
    "TooLong": ["number"], "BadRule": ["error"], "NoStart": ["value"], "NoRise": [], "Stuck": ["index"],
    "BadLoop": ["indexes"], "Endless": [], "TooMany": [], "Poor": ["kind"], "BadPurse": ["value"],
    "NotEnough": ["kind"], "OtherKinds": [], "NoNumber": ["value"], "NoAmount": ["value"], "TooGreat": ["index"],
    "BadText": ["line", "place"], "BadBoard": ["error"], "BadAmount": ["value"], "BadTimes": ["value"],
    "BadOffer": ["value"], "OfferThere": [], "TooManyOffers": [], "TooLittle": ["amount"], "TooFull": ["kind"],
    "NotSmall": [], "Gains": ["loop"], "Busy": [], "TooManyEdits": [], "NothingToUndo": [], "BadEdits": [],
    "BadEdit": ["index"], "Rejected": ["index"],
}
LOOKUPS = {"NoKind": ["kind"], "NoOffer": ["index"], "NoVersion": ["value"]}


class ErrorsTest(unittest.TestCase):
    def test_every_class_is_defined_here(self):
        for name in ["ChangeError"] + list(FIELDS) + list(LOOKUPS):
            found = getattr(errors, name)
            self.assertIsInstance(found, type)
            self.assertEqual((found.__name__, found.__module__), (name, "smallchange.errors"))

    def test_bases(self):
        self.assertEqual(errors.ChangeError.__bases__, (ValueError,))
        for name in FIELDS:
            self.assertEqual(getattr(errors, name).__bases__, (errors.ChangeError,), name)
        for name in LOOKUPS:
            self.assertTrue(issubclass(getattr(errors, name), LookupError), name)
            self.assertFalse(issubclass(getattr(errors, name), ValueError), name)

    def test_none_derives_from_another_one(self):
        classes = [getattr(errors, name) for name in list(FIELDS) + list(LOOKUPS)]
        for one in classes:
            self.assertEqual([other for other in classes if issubclass(one, other)], [one])

    def test_fields_are_the_objects_that_were_passed(self):
        for name, fields in list(FIELDS.items()) + list(LOOKUPS.items()):
            passed = [[name, field] for field in fields]
            error = getattr(errors, name)(*passed)
            for field, value in zip(fields, passed):
                self.assertIs(getattr(error, field), value, name)

    def test_text_takes_line_before_place(self):
        error = errors.BadText(3, 7)
        self.assertEqual((error.line, error.place), (3, 7))

    def test_can_be_raised_and_caught_by_the_base(self):
        with self.assertRaises(errors.ChangeError):
            raise errors.TooLong(10 ** 30)
        with self.assertRaises(ValueError):
            raise errors.NoRise()
        with self.assertRaises(LookupError):
            raise errors.NoKind(None)


if __name__ == "__main__":
    unittest.main()
