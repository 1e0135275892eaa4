"""Values that several tests share."""

from answergate.errors import BadText, GateError, Known, NotUnknown


def nested(depth):
    value = "deep"
    for _ in range(depth):
        value = (value,)
    return value


# Any values in the sense of [0.2]: none of them is a text, a rest, a message or a number.
NO_STRINGS = (
    None, True, False, 0, 1, -1, 7, 10 ** 9, 10 ** 9 + 1, -10 ** 39, 10 ** 40 - 1,
    (), (1,), (None,), ((),), ("a",), ("look", 1), (("look",),), (1, 2, 3), nested(10),
    [], [1], ["look"], ["ask", 1, "a"], [[]], [("look",)],
    {}, {"look": 1}, {1: "ask", None: []}, {("a", 1): {"b": [None]}},
    GateError(), BadText("look"), Known("cleo", 1), NotUnknown(),
    (["ask"], 1, "a"), ({}, 1), (None, 1, "a"), (True,), (BadText(1),),
)

# Strings that no frame and no message begins with, or that are too long.
ODD_STRINGS = ("\n", "4\n", "\n4:look,", "look\n", "~" * 1000, "\n" * 1000, " ", "a", ",", ":")
