"""What several tests ask of a call."""

from inspect import Parameter, signature
from time import process_time


class Checks:
    """Beside unittest.TestCase, as a base class."""

    def assert_error(self, kind, attributes, function, *arguments):
        """The call raises an error of exactly this class with these attributes, twice alike."""
        before = [as_words(argument) for argument in arguments]
        for _ in range(2):
            try:
                result = function(*arguments)
            except kind as error:
                self.assertIs(type(error), kind)
                self.assertEqual(set(vars(error)), set(attributes))
                for name, value in attributes.items():
                    self.assertEqual(as_words(getattr(error, name)), as_words(value))
            else:
                self.fail(f"{function.__name__}{arguments} returned {result!r}")
        self.assertEqual([as_words(argument) for argument in arguments], before)

    def assert_interface(self, module, interface):
        """The module itself defines functions with these names and parameters, which have no default values."""
        for name, parameters in interface.items():
            function = getattr(module, name)
            self.assertEqual(function.__module__, module.__name__)
            found = signature(function).parameters
            self.assertEqual(list(found), parameters)
            for parameter in found.values():
                self.assertEqual(parameter.kind, Parameter.POSITIONAL_OR_KEYWORD)
                self.assertIs(parameter.default, Parameter.empty)

    def assert_result(self, wanted, function, *arguments):
        """The call returns this value, twice alike, and changes no argument."""
        before = [as_words(argument) for argument in arguments]
        for _ in range(2):
            result = function(*arguments)
            self.assertEqual(as_words(result), as_words(wanted), (function.__name__, arguments))
        self.assertEqual([as_words(argument) for argument in arguments], before)

    def assert_quick(self, function, *arguments):
        """The call is answered well under a second; returns its result."""
        start = process_time()
        result = function(*arguments)
        self.assertLess(process_time() - start, 0.5, function.__name__)
        return result

    def assert_bool(self, wanted, function, *arguments):
        before = [as_words(argument) for argument in arguments]
        for _ in range(2):
            self.assertIs(function(*arguments), wanted, arguments)
        self.assertEqual([as_words(argument) for argument in arguments], before)


def as_words(value):
    """A value as a string that tells apart what == takes for equal, as True and 1."""
    if isinstance(value, Exception):
        return f"{type(value).__name__}({as_words(vars(value))})"
    if isinstance(value, dict):
        return "{" + "; ".join(f"{as_words(k)}: {as_words(v)}" for k, v in value.items()) + "}"
    if isinstance(value, (tuple, list)):
        return type(value).__name__ + "(" + "; ".join(as_words(part) for part in value) + ")"
    return repr(value)
