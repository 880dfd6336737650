"""Point [37]: the errors, their bases and their attributes."""

import unittest

from poolsmeet import errors
from poolsmeet.ratios import Ratio

DIRECT = {
    "InvalidNumber": ("value",),
    "InvalidDrop": ("index",),
    "InvalidTime": ("time",),
    "InvalidText": ("line",),
    "InvalidCommand": (),
    "Full": ("limit",),
    "MissingDrop": ("spot", "amount"),
    "Touching": ("index",),
    "OutOfGround": ("spot",),
    "Overfull": ("total",),
    "TrialError": (),
}

ALL = dict(DIRECT, UnknownIndex=("index",))

VALUES = [
    0, -1, 7, 10 ** 5000, -(10 ** 5000), "", "text", "two\nlines", "{value}", True, False, None,
    Ratio(1, 3), Ratio(-(10 ** 5000), 7), (), (1, "a"), (((((((("deep",),),),),),),),), (None, Ratio(2)), [1, [2]],
]


def made_by_position(name, values):
    return getattr(errors, name)(*values)


def made_by_name(name, values):
    return getattr(errors, name)(**dict(zip(ALL[name], values)))


class ErrorClasses(unittest.TestCase):
    def test_the_base_is_a_value_error(self):
        self.assertEqual(errors.PoolError.__bases__, (ValueError,))

    def test_the_others_derive_directly_from_the_base(self):
        for name in DIRECT:
            with self.subTest(name):
                self.assertEqual(getattr(errors, name).__bases__, (errors.PoolError,))

    def test_unknown_index_is_an_index_error_only(self):
        self.assertEqual(errors.UnknownIndex.__bases__, (IndexError,))
        self.assertNotIsInstance(errors.UnknownIndex(3), errors.PoolError)
        self.assertNotIsInstance(errors.UnknownIndex(3), ValueError)

    def test_an_error_is_of_its_own_class_and_of_its_base_only(self):
        for name in ALL:
            error = made_by_position(name, VALUES[:len(ALL[name])])
            for other in ALL:
                with self.subTest(error=name, other=other):
                    self.assertEqual(isinstance(error, getattr(errors, other)), name == other)
            self.assertEqual(isinstance(error, errors.PoolError), name in DIRECT)
            self.assertEqual(isinstance(error, IndexError), name == "UnknownIndex")

    def test_there_are_no_further_classes(self):
        found = [name for name, value in vars(errors).items() if isinstance(value, type)]
        self.assertEqual(sorted(found), sorted(["PoolError", *ALL]))

    def test_the_classes_are_caught_by_their_bases(self):
        for name in ALL:
            base = errors.PoolError if name in DIRECT else IndexError
            with self.subTest(name), self.assertRaises(base):
                raise made_by_position(name, VALUES[:len(ALL[name])])


class ErrorAttributes(unittest.TestCase):
    def test_arguments_are_kept_unchanged(self):
        for name, attributes in ALL.items():
            for make in (made_by_position, made_by_name):
                for start in range(len(VALUES)):
                    values = [VALUES[(start + at) % len(VALUES)] for at in range(len(attributes))]
                    error = make(name, values)
                    for attribute, value in zip(attributes, values):
                        with self.subTest(name, attribute=attribute, start=start):
                            self.assertIs(getattr(error, attribute), value)

    def test_a_missing_drop_takes_its_names_in_any_order(self):
        error = errors.MissingDrop(amount=2, spot=5)
        self.assertEqual((error.spot, error.amount), (5, 2))

    def test_two_errors_of_one_class_keep_their_own_arguments(self):
        one, other = errors.Full(40), errors.Full(41)
        self.assertEqual((one.limit, other.limit), (40, 41))

    def test_the_arguments_are_required(self):
        for name, attributes in ALL.items():
            if attributes:
                with self.subTest(name), self.assertRaises(TypeError):
                    getattr(errors, name)()

    def test_an_error_has_no_attributes_of_others(self):
        for name, attributes in ALL.items():
            error = made_by_position(name, VALUES[:len(attributes)])
            with self.subTest(name):
                self.assertEqual(sorted(vars(error)), sorted(attributes))


if __name__ == "__main__":
    unittest.main()
