import unittest

from undrawn import errors

BELOW = {
    "InvalidSpace": "value",
    "InvalidQuery": "value",
    "InvalidObservation": "index",
    "NoMatch": "observations",
    "InvalidSeed": "bound",
    "InvalidUsers": "value",
    "TooManyAnswers": "limit",
    "InvalidAction": "value",
    "InvalidLine": "line",
}
ASIDE = {"InvalidRewind": ("length", IndexError), "UnknownUser": ("name", KeyError)}
VALUES = [0, -3, 10**3999, "", "ann", "a\nb", None, True, False, (), (1, ("a", None)), [1, [2]], {"a": (1,)}]


def attributes():
    return list(BELOW.items()) + [(name, attribute) for name, (attribute, _) in ASIDE.items()]


class ErrorsTest(unittest.TestCase):
    def own_bases(self, error):
        return [base.__name__ for base in error.__mro__[1:] if base.__module__.startswith("undrawn")]

    def test_sampler_error_is_a_value_error(self):
        self.assertEqual(errors.SamplerError.__bases__, (ValueError,))
        self.assertEqual(self.own_bases(errors.SamplerError), [])

    def test_errors_directly_below_sampler_error(self):
        for name in list(BELOW) + ["ParseError"]:
            error = getattr(errors, name)
            self.assertEqual(error.__bases__, (errors.SamplerError,), name)
            self.assertEqual(self.own_bases(error), ["SamplerError"], name)

    def test_errors_beside_sampler_error(self):
        for name, (_, base) in ASIDE.items():
            error = getattr(errors, name)
            self.assertEqual(error.__bases__, (base,), name)
            self.assertEqual(self.own_bases(error), [], name)
            self.assertFalse(issubclass(error, errors.SamplerError), name)

    def test_every_class_is_defined_here(self):
        names = ["SamplerError", "ParseError"] + [name for name, _ in attributes()]
        self.assertEqual(len(names), 13)
        for name in names:
            error = getattr(errors, name)
            self.assertEqual((error.__name__, error.__module__), (name, "undrawn.errors"))

    def test_attributes_are_the_arguments(self):
        for name, attribute in attributes():
            for value in VALUES:
                for error in (getattr(errors, name)(value), getattr(errors, name)(**{attribute: value})):
                    self.assertIs(getattr(error, attribute), value, name)

    def test_attributes_of_an_earlier_error_stay(self):
        for name, attribute in attributes():
            first = getattr(errors, name)("first")
            second = getattr(errors, name)(value := ["second"])
            self.assertEqual(getattr(first, attribute), "first", name)
            self.assertIs(getattr(second, attribute), value, name)

    def test_one_argument_is_needed(self):
        for name, _ in attributes() + [("ParseError", "message")]:
            self.assertRaises(TypeError, getattr(errors, name))
            self.assertRaises(TypeError, getattr(errors, name), 1, 2)

    def test_each_is_caught_by_its_class_and_its_bases(self):
        for name, _ in attributes() + [("ParseError", "message")]:
            error = getattr(errors, name)
            for caught in error.__mro__[:-1]:
                with self.assertRaises(caught):
                    raise error("x")

    def test_none_is_caught_by_another_class(self):
        names = [name for name, _ in attributes()] + ["ParseError"]
        for name in names:
            for other in names:
                related = isinstance(getattr(errors, name)("x"), getattr(errors, other))
                self.assertEqual(related, name == other, (name, other))
        self.assertNotIsInstance(errors.SamplerError("x"), errors.InvalidSpace)

    def test_parse_error_takes_a_message(self):
        self.assertEqual(str(errors.ParseError("no text")), "no text")
        self.assertEqual(str(errors.ParseError(message="no text")), "no text")

    def test_messages_of_large_values_are_made(self):
        for name, _ in attributes():
            error = getattr(errors, name)(10**5000)
            self.assertIsInstance(str(error), str)
            self.assertIsInstance(repr(error), str)
