"""[1.3] Messages, and the interface of answergate/messages.py."""

import unittest
from inspect import Parameter, signature
from itertools import product

from answergate import messages
from answergate.errors import BadMessage, BadText
from answergate.frames import frame, is_text, read
from answergate.messages import is_message, message_text, read_message, side
from tests.checks import Checks
from tests.samples import NO_STRINGS, ODD_STRINGS

PLAIN = "".join(chr(code) for code in range(32, 127))
MOST = 10 ** 9
NUMBERS = (0, 1, 2, 9, 10, 99, 100, 12345, MOST - 1, MOST)
NO_NUMBERS = (-1, -MOST, MOST + 1, 10 ** 10, 10 ** 39, True, False, None, "1", "", (1,), [1], {}, (), "x")
BODIES = ("", "a", " ", "  ", " a", "a ", " a ", "a b", "a  b", "1", "1 2", "ask 1 a", ",", "4:look,", PLAIN,
          "x" * 149, "x" * 150, " " * 150)
NO_BODIES = ("x" * 151, " " * 151, "x" * 1000, "\n", "a\n", "a\nb", "\x1f", "\x7f", "\xe9", "\u2028",
             0, 1, True, None, (), ("a",), ["a"], [], {}, {"a": 1})
SIDES = {"ask": "toward", "past": "toward", "look": "toward", "hello": "back", "answer": "back", "upto": "back",
         "forgot": "back", "well": "back", "away": "back"}
WITH_BODY = ("ask", "answer")
WITH_TWO = ("past", "upto")
WITH_ONE = ("hello", "forgot", "away")
WITH_NONE = ("look", "well")


def all_messages():
    """Pairs of a message and its text, as [1.3] says them."""
    for word, number, body in product(WITH_BODY, NUMBERS[1:], BODIES):
        yield (word, number, body), word + " " + str(number) + " " + body
    for word, one, two in product(WITH_TWO, NUMBERS, NUMBERS):
        yield (word, one, two), word + " " + str(one) + " " + str(two)
    for word, number in product(WITH_ONE, NUMBERS):
        yield (word, number), word + " " + str(number)
    for word in WITH_NONE:
        yield (word,), word


def no_messages():
    yield from NO_STRINGS
    yield from ODD_STRINGS
    for message, text in all_messages():
        yield text
        yield list(message)
        yield message + ("",)
        yield message + (1,)
        yield (message,)
        yield message[1:]
        yield message[:-1]
        yield ("x",) + message[1:]
        yield (message[0].upper(),) + message[1:]
        yield (message[0] + " ",) + message[1:]
        yield ([message[0]],) + message[1:]
    for word, number, body in product(WITH_BODY, NO_NUMBERS + (0,), BODIES):
        yield (word, number, body)
    for word, number, body in product(WITH_BODY, NUMBERS + NO_NUMBERS, NO_BODIES):
        yield (word, number, body)
    for word, good, bad in product(WITH_TWO, NUMBERS, NO_NUMBERS):
        yield from ((word, good, bad), (word, bad, good), (word, bad, bad))
    for word, number in product(WITH_ONE, NO_NUMBERS):
        yield (word, number)
    for word in WITH_NONE:
        yield from ((word, 0), (word, None), (word, ""), (word, word), [word], {word: word})


# Numbers that are not written as the text of a message has them.
NO_DIGITS = ("", "00", "01", "007", "+1", "-1", "-0", "1.0", "1e3", "0x1", "1_0", "a", " 1", "1 ", " ", "\n", "1\n",
             "1000000001", "9999999999", "10000000000", "01000000000", "9" * 900, "9" * 5000, "\u0663", "1\u0663", "\u00b2", "\uff11")


def no_texts():
    yield from NO_STRINGS
    yield from ODD_STRINGS
    yield from ("", "ask", "ask ", "ask 1", "answer 7", "ask  1 a", "ask 1a", "ask a 1", "asks 1 a", "ASK 1 a", "Ask 1 a",
                "look ", " look", "look 1", "looks", "loo", "Look", "well ", "well 0", "hello", "hello ", "hello 1 ",
                "hello  1", "hello 1 2", "hello\n1", "hello,1", "away", "away 1 ", "forgot 1 1", "past 1", "past 1 ",
                "past 1 2 ", "past 1 2 3", "past  1 2", "past 1  2", "upto", "upto 3", "upto 3 12 4", "upto 3,12",
                "unknown 1", "answer", "answer  1", "('look',)", "4:look,", "look,", "look\n", "look\nwell")
    for word, digits, body in product(WITH_BODY, NO_DIGITS + ("0",), ("", "a", "1 a")):
        # Behind "1 " one more blank follows, which would be the first character of the body.
        if digits != "1 ":
            yield f"{word} {digits} {body}"
    for word, body in product(WITH_BODY, NO_BODIES):
        if isinstance(body, str):
            yield f"{word} 1 {body}"
    for word, digits in product(WITH_TWO, NO_DIGITS):
        yield from (f"{word} 1 {digits}", f"{word} {digits} 1", f"{word} {digits} {digits}")
    for word, digits in product(WITH_ONE, NO_DIGITS):
        yield f"{word} {digits}"
    for _, text in all_messages():
        yield from (" " + text, "x" + text, text.replace(" ", "\n", 1) + "\n", text[0].upper() + text[1:])


class Example(unittest.TestCase):

    def test_messages(self):
        self.assertEqual(
            [message_text(("ask", 7, "a b")), message_text(("answer", 7, "")), read_message("upto 3 12"),
             read_message("answer 1 "), side(("past", 3, 1))],
            ["ask 7 a b", "answer 7 ", ("upto", 3, 12), ("answer", 1, ""), "toward"])


class Interface(unittest.TestCase):

    def test_parameters(self):
        for function, name in ((is_message, "thing"), (side, "message"), (message_text, "message"), (read_message, "text")):
            found = signature(function).parameters
            self.assertEqual(list(found), [name])
            self.assertEqual(found[name].kind, Parameter.POSITIONAL_OR_KEYWORD)
            self.assertEqual(function.__module__, messages.__name__)

    def test_by_name(self):
        self.assertIs(is_message(thing=("look",)), True)
        self.assertEqual(side(message=("well",)), "back")
        self.assertEqual(message_text(message=("away", 0)), "away 0")
        self.assertEqual(read_message(text="away 0"), ("away", 0))


class Messages(Checks, unittest.TestCase):

    def test_messages(self):
        for message, _ in all_messages():
            self.assert_bool(True, is_message, message)

    def test_sides(self):
        self.assertEqual(len(SIDES), 9)
        for message, _ in all_messages():
            self.assertEqual(side(message), SIDES[message[0]])

    def test_no_messages(self):
        for thing in no_messages():
            self.assert_bool(False, is_message, thing)
            self.assert_error(BadMessage, {"thing": thing}, side, thing)
            self.assert_error(BadMessage, {"thing": thing}, message_text, thing)

    def test_numbers_from_one_on(self):
        for word in WITH_BODY:
            self.assertEqual([is_message((word, number, "")) for number in (-1, 0, 1, MOST, MOST + 1)],
                             [False, False, True, True, False])

    def test_numbers_from_zero_on(self):
        for word in WITH_ONE:
            self.assertEqual([is_message((word, number)) for number in (-1, 0, 1, MOST, MOST + 1)],
                             [False, True, True, True, False])
        for word in WITH_TWO:
            self.assertEqual([is_message((word, number, 0)) for number in (-1, 0, 1, MOST, MOST + 1)],
                             [False, True, True, True, False])
            self.assertEqual([is_message((word, 0, number)) for number in (-1, 0, 1, MOST, MOST + 1)],
                             [False, True, True, True, False])

    def test_characters_of_bodies(self):
        for code in range(300):
            wanted = 32 <= code <= 126
            for body in (chr(code), chr(code) + "a", "a" + chr(code)):
                self.assert_bool(wanted, is_message, ("ask", 1, body))
                self.assert_bool(wanted, is_message, ("answer", 1, body))


class Texts(Checks, unittest.TestCase):

    def test_texts_of_messages(self):
        for message, text in all_messages():
            self.assertEqual(message_text(message), text)

    def test_reading_gives_the_message_back(self):
        for message, text in all_messages():
            found = read_message(text)
            self.assertEqual(found, message)
            self.assert_bool(True, is_message, found)

    def test_texts_are_texts(self):
        longest = 0
        for message, text in all_messages():
            self.assertTrue(is_text(text))
            self.assertEqual(read("", frame(text)), ("read", (text,), ""))
            longest = max(longest, len(text))
        self.assertEqual(longest, len("answer 1000000000 ") + 150)

    def test_different_messages_have_different_texts(self):
        messages_of = {}
        for message, text in all_messages():
            self.assertEqual(messages_of.setdefault(text, message), message)

    def test_bodies_with_blanks(self):
        for text, message in (
                ("ask 7 ", ("ask", 7, "")), ("ask 7  ", ("ask", 7, " ")), ("ask 7  a ", ("ask", 7, " a ")),
                ("ask 7 8", ("ask", 7, "8")), ("ask 7 8 9", ("ask", 7, "8 9")), ("answer 1 look", ("answer", 1, "look")),
                ("answer 1 " + " " * 150, ("answer", 1, " " * 150))):
            self.assertEqual(read_message(text), message)
            self.assertEqual(message_text(message), text)

    def test_no_texts(self):
        for text in no_texts():
            self.assert_error(BadText, {"thing": text}, read_message, text)

    def test_short_changes(self):
        """Whatever is read has the text that was read."""
        for text in ("ask 10 a b", "answer 2 ", "past 0 10", "look", "hello 1", "upto 20 1", "forgot 0", "well", "away 3"):
            for at, char in product(range(len(text) + 1), " 01+-aA\n"):
                for changed in (text[:at] + char + text[at:], text[:at] + char + text[at + 1:], text[:at] + text[at + 1:]):
                    try:
                        message = read_message(changed)
                    except BadText as error:
                        self.assertEqual(error.thing, changed)
                    else:
                        self.assertIs(is_message(message), True)
                        self.assertEqual(message_text(message), changed)

    def test_messages_are_no_texts(self):
        for message, _ in all_messages():
            self.assert_error(BadText, {"thing": message}, read_message, message)


if __name__ == "__main__":
    unittest.main()
