"""[2] and the interface: the refusals and how their classes stand."""

import unittest

from pointpurse import errors

REFUSALS = (
    "BadHouse", "BadDeed", "BadBook", "Twice", "NoDeed",
    "WrongDay", "NoRate", "TooFew", "NotOver", "BadText",
)


def refusal(name):
    return getattr(errors, name)


def made_bad_text(line):
    """A BadText of a line, or None where no way of making one sets its field."""
    # The document tells the field, not the order in which the error takes its parts.
    for parts in ((line,), ("words", line), (line, "words")):
        try:
            error = errors.BadText(*parts)
        except TypeError:
            continue
        if getattr(error, "line", None) == line:
            return error
    return None


class HowTheClassesStand(unittest.TestCase):
    def test_purse_error_stands_straight_under_value_error(self):
        self.assertEqual(errors.PurseError.__bases__, (ValueError,))

    def test_each_refusal_stands_straight_under_purse_error(self):
        for name in REFUSALS:
            with self.subTest(name=name):
                self.assertEqual(refusal(name).__bases__, (errors.PurseError,))

    def test_no_refusal_stands_under_another(self):
        for name in REFUSALS:
            for other in REFUSALS:
                if name != other:
                    with self.subTest(name=name, other=other):
                        self.assertFalse(issubclass(refusal(name), refusal(other)))

    def test_each_class_bears_its_name(self):
        for name in REFUSALS + ("PurseError",):
            with self.subTest(name=name):
                self.assertEqual(refusal(name).__name__, name)

    def test_a_refusal_is_taken_as_purse_error_and_as_value_error(self):
        for name in REFUSALS:
            if name != "BadText":
                for taken in (refusal(name), errors.PurseError, ValueError):
                    with self.subTest(name=name, taken=taken), self.assertRaises(taken):
                        raise refusal(name)("words")


class TheLineOfBadText(unittest.TestCase):
    def test_line_is_kept(self):
        for line in (1, 2, 57):
            with self.subTest(line=line):
                self.assertIsNotNone(made_bad_text(line))

    def test_each_error_has_a_line_of_its_own(self):
        one = made_bad_text(3)
        other = made_bad_text(8)
        self.assertEqual((one.line, other.line), (3, 8))

    def test_it_is_taken_as_purse_error_with_its_line(self):
        with self.assertRaises(errors.PurseError) as caught:
            raise made_bad_text(4)
        self.assertIsInstance(caught.exception, errors.BadText)
        self.assertEqual(caught.exception.line, 4)


if __name__ == "__main__":
    unittest.main()
