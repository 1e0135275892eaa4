"""Values that several tests share."""

from answergate.errors import BadText, GateError, Known, NotUnknown


def nested(depth):
    value = "deep"
    for _ in range(depth):
        value = (value,)
    return value


# Any values in the sense of [0.2]: none of them is a text, a rest, a message or a number.
NO_STRINGS = (
    None, True, False, 0, 1, -1, 7, 10 ** 9, 10 ** 9 + 1, -10 ** 39, 10 ** 40 - 1,
    (), (1,), (None,), ((),), ("a",), ("look", 1), (("look",),), (1, 2, 3), nested(10),
    [], [1], ["look"], ["ask", 1, "a"], [[]], [("look",)],
    {}, {"look": 1}, {1: "ask", None: []}, {("a", 1): {"b": [None]}},
    GateError(), BadText("look"), Known("cleo", 1), NotUnknown(),
    (["ask"], 1, "a"), ({}, 1), (None, 1, "a"), (True,), (BadText(1),),
)

# Strings that no frame and no message begins with, or that are too long.
ODD_STRINGS = ("\n", "4\n", "\n4:look,", "look\n", "~" * 1000, "\n" * 1000, " ", "a", ",", ":")

# What is no number or no word, and some words.
NO_NUMBERS = NO_STRINGS[:3] + (-1, -10 ** 9, 10 ** 9 + 1, 10 ** 39, -10 ** 39) + NO_STRINGS[11:] + ODD_STRINGS + ("", "1", "0")
WORDS = ("a", "z", "ann", "abcdefghij", "open", "q" * 10)
NO_WORDS = NO_STRINGS + ("", " ", "\n", "x" * 11, "x" * 1000, "A", "aB", "Ann", "a1", "1", "a ", " a", "a\n", "\na", "a-b", "a_b",
                         "{", "`", "\xe9", "a\xe9", "\xdf", "\u03b1", "\u0131", "\uff41")

# Parts that values of the document are made of, and parts that look like them.
PARTS = NO_STRINGS + ODD_STRINGS + (
    "", "a", "b", "A", "ann", "ann ", "an1", "\xe9", "x" * 10, "x" * 11, "x" * 150, "x" * 151, "1", "4:look,", "4:loo", "04",
    "open", "away", "closed", "broken", "Open", 2, 3, 4, 5, 40, 10 ** 6, (0,), (2,), (1, 2), (2, 1), (1, 1), (1, 3), (True,),
    [1, 2], ("x",), ("x", "y"), ("x", 1), ("x" * 150,), ("x" * 151,), ["x"], ("\n",),
)


def nudged(random, value, leaves=(0, 1, 2, 3, 5, 9, "", "a", "ann", "open", "broken", True, False, None, (), (1, 1), (1, 2), (2, 1))):
    """The value with one drawn leaf replaced."""
    if not isinstance(value, tuple) or not value:
        return random.choice(leaves)
    at = random.randrange(len(value))
    return value[:at] + (nudged(random, value[at], leaves),) + value[at + 1:]


def spoiled(value, parts=PARTS):
    """The value with one part, at any depth, replaced by each of these parts, left out, repeated or exchanged."""
    yield from parts
    if not isinstance(value, tuple):
        return
    yield list(value)
    yield (value,)
    yield value + value
    for at, part in enumerate(value):
        yield value[:at] + value[at + 1:]
        yield value[:at + 1] + value[at:]
        yield value[:at] + tuple(reversed(value[at:at + 2])) + value[at + 2:]
        for other in spoiled(part, parts):
            yield value[:at] + (other,) + value[at + 1:]
