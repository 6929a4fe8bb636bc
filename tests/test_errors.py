import unittest

from copiedhouse import errors
from copiedhouse.errors import HouseError

FIELDS = {
    "BadText": "at",
    "Twice": "word",
    "NoHand": None,
    "NoName": "word",
    "WrongShelf": "word",
    "NoSplit": "word",
    "NotHeld": "word",
    "Left": "word",
    "NoPaper": "at",
    "TooMany": "most",
    "NoTurn": None,
    "NoAsk": None,
}
VALUES = {"at": (0, 7, 1199), "word": ("a", "shelf", "abcdefgh"), "most": (1, 200)}


def made(name):
    """Each refusal of this name that the tests make, with the fields that it should have."""
    field = FIELDS[name]
    made_by = getattr(errors, name)
    if field is None:
        return [(made_by(), {})]
    return [(made_by(value), {field: value}) for value in VALUES[field]]


class TheRefusals(unittest.TestCase):
    def test_any_refusal_is_a_value_error(self):
        self.assertTrue(issubclass(HouseError, ValueError))

    def test_a_house_error_is_made_with_a_text(self):
        with self.assertRaises(ValueError):
            raise HouseError("the house is shut")
        self.assertIsInstance(HouseError("the house is shut"), HouseError)

    def test_each_stands_beneath_house_error(self):
        for name in FIELDS:
            self.assertTrue(issubclass(getattr(errors, name), HouseError), name)

    def test_house_error_is_none_of_them(self):
        for name in FIELDS:
            self.assertFalse(issubclass(HouseError, getattr(errors, name)), name)

    def test_none_stands_beneath_another(self):
        for one in FIELDS:
            for other in FIELDS:
                if one != other:
                    beneath = issubclass(getattr(errors, one), getattr(errors, other))
                    self.assertFalse(beneath, (one, other))

    def test_each_has_just_the_field_told(self):
        for name in FIELDS:
            for error, fields in made(name):
                for field in VALUES:
                    self.assertEqual(hasattr(error, field), field in fields, (name, field))
                for field, value in fields.items():
                    self.assertEqual(getattr(error, field), value, name)
                    self.assertIs(type(getattr(error, field)), type(value), name)

    def test_each_is_made_by_the_name_of_its_field(self):
        for name, field in FIELDS.items():
            if field is not None:
                value = VALUES[field][0]
                error = getattr(errors, name)(**{field: value})
                self.assertEqual(getattr(error, field), value)

    def test_each_is_raised_and_taken_by_its_name_and_as_house_error(self):
        for name in FIELDS:
            for taken_as in (getattr(errors, name), HouseError, ValueError):
                for error, fields in made(name):
                    with self.assertRaises(taken_as) as caught:
                        raise error
                    for field, value in fields.items():
                        self.assertEqual(getattr(caught.exception, field), value)

    def test_two_of_one_sort_keep_their_own_fields(self):
        one = errors.BadText(1)
        other = errors.BadText(2)
        self.assertEqual((one.at, other.at), (1, 2))

    def test_each_can_be_shown(self):
        for name in FIELDS:
            for error, _ in made(name):
                self.assertIsInstance(str(error), str)


if __name__ == "__main__":
    unittest.main()
