"""[3]: the errors and their fields."""

import copy
import pickle
import unittest

from bestcodes import errors

FIELDS = {
    "BadCode": "state", "BadValue": "place", "BadText": "line", "TooMany": "what",
    "NotKept": "guard", "Unlike": None, "NothingLeft": None, "Busy": None,
}


class Errors(unittest.TestCase):

    def test_the_classes_stand_under_code_error(self):
        self.assertEqual(errors.CodeError.__bases__, (ValueError,))
        for name in FIELDS:
            kind = getattr(errors, name)
            self.assertEqual(kind.__bases__, (errors.CodeError,), name)
            self.assertEqual(kind.__module__, "bestcodes.errors")

    def test_fields_by_position_and_by_name(self):
        # any values: also some that have no text, or are equal to nothing
        for value in (0, 3, -1, "states", None, 10 ** 5000, [], ("never", ("a",), "b"), object()):
            for name, field in FIELDS.items():
                if field is None:
                    continue
                kind = getattr(errors, name)
                self.assertIs(getattr(kind(value), field), value)
                self.assertIs(getattr(kind(**{field: value}), field), value)
                self.assertEqual(vars(kind(value)), {field: value})

    def test_fields_must_be_there(self):
        for name, field in FIELDS.items():
            if field is not None:
                with self.assertRaises(TypeError):
                    getattr(errors, name)()
                with self.assertRaises(TypeError):
                    getattr(errors, name)(1, 2)

    def test_those_without_fields(self):
        for name, field in FIELDS.items():
            if field is None:
                self.assertEqual(vars(getattr(errors, name)()), {})
        self.assertEqual(vars(errors.CodeError()), {})

    def test_they_are_raised_and_caught(self):
        for name, field in FIELDS.items():
            kind = getattr(errors, name)
            for caught in (kind, errors.CodeError, ValueError):
                with self.assertRaises(caught):
                    raise kind() if field is None else kind(7)

    def test_copies_keep_the_fields(self):
        for told in (errors.BadCode(3), errors.BadCode(state=3)):
            self.assertEqual(copy.copy(told).state, 3)
            self.assertEqual(pickle.loads(pickle.dumps(told)).state, 3)
        self.assertIsInstance(copy.copy(errors.Unlike()), errors.Unlike)


if __name__ == "__main__":
    unittest.main()
