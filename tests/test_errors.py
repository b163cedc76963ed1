import unittest

from cubebook import errors

NAMES = ["NoLadder", "NoValue", "NoGrain", "NoPick", "NoRow", "NoSuch", "NoText", "TooMuch"]
KINDS = [getattr(errors, name) for name in NAMES]


def is_caught_by(kind, caught):
    try:
        raise kind("some words")
    except caught:
        return True
    except Exception:
        return False


class ErrorsTest(unittest.TestCase):
    def test_each_is_caught_as_cube_error_and_as_value_error(self):
        for kind in KINDS:
            with self.subTest(kind=kind.__name__):
                self.assertTrue(is_caught_by(kind, errors.CubeError))
                self.assertTrue(is_caught_by(kind, ValueError))

    def test_each_is_caught_by_itself_and_by_none_of_the_other_seven(self):
        for place, kind in enumerate(KINDS):
            for other_place, other in enumerate(KINDS):
                with self.subTest(kind=kind.__name__, other=other.__name__):
                    self.assertEqual(is_caught_by(kind, other), place == other_place)

    def test_cube_error_is_a_value_error_and_none_of_the_eight(self):
        self.assertTrue(is_caught_by(errors.CubeError, ValueError))
        for kind in KINDS:
            with self.subTest(kind=kind.__name__):
                self.assertFalse(is_caught_by(errors.CubeError, kind))

    def test_other_value_errors_are_no_refusals(self):
        for kind in [errors.CubeError] + KINDS:
            with self.subTest(kind=kind.__name__):
                self.assertFalse(is_caught_by(ValueError, kind))

    def test_each_is_called_by_its_name(self):
        self.assertEqual([kind.__name__ for kind in KINDS], NAMES)


if __name__ == "__main__":
    unittest.main()
