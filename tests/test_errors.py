"""The interface of answergate/errors.py."""

import unittest
from inspect import Parameter, signature

from answergate import errors
from answergate.errors import GateError
from tests.samples import NO_STRINGS, ODD_STRINGS

THING = """BadText BadRest BadPiece BadMessage BadLink BadLabel BadName BadDirection BadNumber Broken
BadHouse BadView BadBody BadNews BadStory BadPool BadCounts BadLot BadWord BadRule BadMark BadBool
BadSettings BadProxy BadEvent BadWorld BadStep BadPast""".split()
PARAMETERS = {
    **{name: ("thing",) for name in THING},
    "NothingDue": ("label",), "NotDue": ("number",), "NotUp": ("name",), "IsUp": ("name",),
    "NotOpen": ("number",), "Known": ("client", "number"), "NoRequest": ("client", "number"),
    "NotUnknown": (), "BadScript": ("at",),
}
VALUES = NO_STRINGS + ODD_STRINGS + ("", "look", ("look",))


class Errors(unittest.TestCase):

    def each(self):
        return [(getattr(errors, name), parameters) for name, parameters in PARAMETERS.items()]

    def check(self, error, kind, given):
        self.assertIs(type(error), kind)
        self.assertEqual(set(vars(error)), set(given))
        for name, value in given.items():
            self.assertIs(getattr(error, name), value)

    def test_all_are_listed(self):
        self.assertEqual(len(PARAMETERS), 37)
        defined = [name for name, value in vars(errors).items() if isinstance(value, type)]
        self.assertEqual(sorted(defined), sorted([*PARAMETERS, "GateError"]))

    def test_base_classes(self):
        self.assertEqual(GateError.__bases__, (Exception,))
        for kind, _ in self.each():
            self.assertEqual(kind.__bases__, (GateError,))
            self.assertEqual(kind.__module__, "answergate.errors")

    def test_parameters(self):
        for kind, parameters in self.each():
            found = signature(kind).parameters
            self.assertEqual(tuple(found), parameters)
            for parameter in found.values():
                self.assertEqual(parameter.kind, Parameter.POSITIONAL_OR_KEYWORD)
                self.assertIs(parameter.default, Parameter.empty)

    def test_by_position(self):
        for kind, parameters in self.each():
            for value in VALUES:
                values = (value, "second")[:len(parameters)]
                self.check(kind(*values), kind, dict(zip(parameters, values)))

    def test_by_name(self):
        for kind, parameters in self.each():
            for value in VALUES:
                given = dict(zip(parameters, (value, "second")))
                self.check(kind(**given), kind, given)
                self.check(kind(**dict(reversed(list(given.items())))), kind, given)

    def test_two_parameters_may_be_mixed(self):
        for kind in (errors.Known, errors.NoRequest):
            for value in VALUES:
                self.check(kind("cleo", number=value), kind, {"client": "cleo", "number": value})

    def test_are_raised_and_caught(self):
        for kind, parameters in self.each():
            values = ("one", 2)[:len(parameters)]
            with self.assertRaises(GateError) as caught:
                raise kind(*values)
            self.check(caught.exception, kind, dict(zip(parameters, values)))

    def test_gate_error_itself(self):
        with self.assertRaises(GateError) as caught:
            raise GateError()
        self.assertEqual(vars(caught.exception), {})


if __name__ == "__main__":
    unittest.main()
