import unittest

from fairposts import errors

FIELDS = {
    "BadThing": "place",
    "BadGadget": None,
    "BadPost": "post",
    "BadNumber": "number",
    "BadText": "row",
    "NotFair": "number",
    "NotApart": None,
    "Still": "hand",
    "TooMany": "bound",
    "NoBack": None,
}

HELD = [
    None, True, 0, 7, -3, 10 ** 59, "a post", "", [1, [2]], {"a": (1,)}, (),
    ("p",), ("fair", 0, 3), ("few", 2), ((1, 0), (0, 2)),
]


class Errors(unittest.TestCase):
    def made(self, name, value=None):
        kind = getattr(errors, name)
        return kind() if FIELDS[name] is None else kind(value)

    def test_post_error_stands_straight_under_value_error(self):
        self.assertEqual(errors.PostError.__bases__, (ValueError,))

    def test_each_class_stands_straight_under_post_error(self):
        for name in FIELDS:
            kind = getattr(errors, name)
            self.assertEqual(kind.__name__, name)
            self.assertEqual(kind.__bases__, (errors.PostError,))

    def test_no_other_classes(self):
        found = {name for name, value in vars(errors).items() if isinstance(value, type)}
        self.assertEqual(found, set(FIELDS) | {"PostError"})

    def test_fields_when_created(self):
        for name, field in FIELDS.items():
            if field is None:
                self.assertEqual(vars(self.made(name)), {})
                continue
            for value in HELD:
                error = self.made(name, value)
                self.assertEqual(list(vars(error)), [field])
                self.assertIs(getattr(error, field), value)

    def test_fields_when_raised(self):
        for name, field in FIELDS.items():
            for value in HELD:
                with self.assertRaises(getattr(errors, name)) as caught:
                    raise self.made(name, value)
                if field is not None:
                    self.assertIs(getattr(caught.exception, field), value)

    def test_caught_as_post_error_and_as_value_error(self):
        for name in FIELDS:
            for wider in (errors.PostError, ValueError):
                with self.assertRaises(wider) as caught:
                    raise self.made(name)
                self.assertIs(caught.exception.__class__, getattr(errors, name))

    def test_none_is_a_sister(self):
        for name in FIELDS:
            error = self.made(name)
            self.assertIsInstance(error, errors.PostError)
            self.assertIsInstance(error, ValueError)
            for sister in FIELDS:
                self.assertEqual(isinstance(error, getattr(errors, sister)), sister == name)

    def test_the_message_does_not_grow_with_the_field(self):
        wide = (0,) * 1000
        for _ in range(19):
            wide = (wide,) * 1000
        for name in FIELDS:
            self.assertEqual(str(self.made(name, wide)), str(self.made(name, 0)))

    def test_each_field_must_be_told(self):
        for name, field in FIELDS.items():
            kind = getattr(errors, name)
            with self.assertRaises(TypeError):
                kind(1) if field is None else kind()


if __name__ == "__main__":
    unittest.main()
