import unittest

from lotmeal import errors

PLAIN = ("NoNumber", "NoText", "TooGreat", "NoAsker", "NoShares", "NoTurns", "NoName", "Double", "NoRow", "NoTable")
FIELDS = {"NoThing": "asker", "Twice": "asker", "NoTicket": "many"}


class ErrorsTest(unittest.TestCase):
    def test_lot_error_stands_under_value_error(self):
        self.assertEqual(errors.LotError.__bases__, (ValueError,))

    def test_each_stands_under_lot_error_alone(self):
        for name in PLAIN + tuple(FIELDS):
            with self.subTest(name=name):
                self.assertEqual(getattr(errors, name).__bases__, (errors.LotError,))

    def test_none_stands_under_another_or_is_another(self):
        names = PLAIN + tuple(FIELDS)
        for one in names:
            for other in names:
                if one != other:
                    with self.subTest(one=one, other=other):
                        self.assertFalse(issubclass(getattr(errors, one), getattr(errors, other)))

    def test_fields_are_set_by_the_one_argument(self):
        # Also a number that Python itself would refuse to write.
        for name, field in FIELDS.items():
            for value in (0, 3, 10 ** 6000):
                with self.subTest(name=name, long=value > 3):
                    self.assertEqual(getattr(getattr(errors, name)(value), field), value)

    def test_fields_are_each_object_s_own(self):
        first = errors.Twice(1)
        second = errors.Twice(2)
        self.assertEqual((first.asker, second.asker), (1, 2))

    def test_those_with_a_field_are_made_with_it_alone(self):
        for name in FIELDS:
            with self.subTest(name=name):
                with self.assertRaises(TypeError):
                    getattr(errors, name)()
                with self.assertRaises(TypeError):
                    getattr(errors, name)(1, 2)

    def test_they_are_raised_and_taken_as_any_refusal(self):
        for name in PLAIN:
            with self.subTest(name=name):
                with self.assertRaises(errors.LotError):
                    raise getattr(errors, name)("words")
        with self.assertRaises(errors.LotError) as taken:
            raise errors.NoTicket(12)
        self.assertEqual(taken.exception.many, 12)
        self.assertIsInstance(str(taken.exception), str)


if __name__ == "__main__":
    unittest.main()
