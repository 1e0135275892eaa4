"""[1.1] Frames, [1.2] Reading, and the interface of answergate/frames.py."""

import unittest
from inspect import Parameter, signature
from itertools import product
from random import Random

from answergate import frames
from answergate.errors import BadPiece, BadRest, BadText
from answergate.frames import frame, is_rest, is_text, read
from tests.checks import Checks
from tests.samples import NO_STRINGS

PLAIN = "".join(chr(code) for code in range(32, 127))
NOT_PLAIN = [chr(code) for code in range(32)] + [chr(code) for code in range(127, 300)] + ["\u2028", "\u0663", "\U0001f600"]
NO_RESTS = (
    "4:look,", "0:,", "200:" + "x" * 200 + ",", "00", "01", "04:", "00:", "000", "-1", "+1", "1_0", " 1", "1 ", "1 :",
    "201", "201:", "210", "300", "999", "1000", "2000", "9" * 1000, "9" * 5000, ":", ":a", ",", "a", " ", "4;", "4,", "4:looks",
    "4:look;", "0: ", "0::", "1:ab", "4:lo\nk", "4:lo\x7fk", "4:lo\x1fk", "4:lo\xe9", "4:look,4", "4:look,0:", "\n", "1\n",
    "\u0663", "\u0663:abc", "1\u00b2", "\uff11", "200:" + "x" * 201, "199:" + "x" * 200,
)
RESTS = (
    "", "0", "1", "9", "10", "19", "20", "21", "99", "100", "199", "200", "0:", "1:", "9:", "10:", "200:", "1:a", "1:,",
    "1::", "1: ", "3:4:l", "4:loo", "4:look", "4: ~ ~", "4:,,,,", "12:a", "200:" + "x" * 199, "200:" + "x" * 200,
)


def looks_like_prefix(string):
    """Whether some frame begins with string, by going through all lengths of texts."""
    for many in range(201):
        head = f"{many}:"
        if head.startswith(string):
            return True
        if string.startswith(head):
            text = string[len(head):len(head) + many]
            comma = string[len(head) + many:]
            return all(char in PLAIN for char in text) and comma in ("", ",")
    return False


def is_whole(string):
    digits, colon, behind = string.partition(":")
    return colon == ":" and len(behind) == int(digits) + 1


def read_slowly(rest, piece):
    """[1.2], sentence by sentence."""
    texts = []
    for at, char in enumerate(piece):
        if not looks_like_prefix(rest + char):
            return ("wrong", tuple(texts), at)
        rest += char
        if is_whole(rest):
            texts.append(rest.partition(":")[2][:-1])
            rest = ""
    return ("read", tuple(texts), rest)


def read_in_pieces(rest, pieces):
    """What read tells of pieces read one after the other, told as of one string."""
    texts, length = (), 0
    for piece in pieces:
        word, more, last = read(rest, piece)
        texts += more
        if word == "wrong":
            return ("wrong", texts, length + last)
        rest = last
        length += len(piece)
    return ("read", texts, rest)


class Example(unittest.TestCase):

    def test_reading(self):
        self.assertEqual(
            [frame("look"), frame(""), read("", "4:look,0:,12:a"), read("12:a", "bc"), read("", "4:look;"),
             read("", "04:"), read("2", "01:")],
            ["4:look,", "0:,", ("read", ("look", ""), "12:a"), ("read", (), "12:abc"), ("wrong", (), 6),
             ("wrong", (), 1), ("wrong", (), 1)])

    def test_rests(self):
        self.assertEqual([is_rest("200"), is_rest("201"), is_rest("0:"), is_rest("0:,")], [True, False, True, False])


class Interface(unittest.TestCase):

    def test_parameters(self):
        for function, names in ((is_text, ["thing"]), (is_rest, ["thing"]), (frame, ["text"]), (read, ["rest", "piece"])):
            found = signature(function).parameters
            self.assertEqual(list(found), names)
            self.assertEqual(function.__module__, frames.__name__)
            for parameter in found.values():
                self.assertEqual(parameter.kind, Parameter.POSITIONAL_OR_KEYWORD)

    def test_by_name(self):
        self.assertIs(is_text(thing="a"), True)
        self.assertIs(is_rest(thing="a"), False)
        self.assertEqual(frame(text="a"), "1:a,")
        self.assertEqual(read(piece=":a,", rest="1"), ("read", ("a",), ""))


class Texts(Checks, unittest.TestCase):

    def test_lengths(self):
        for many in (0, 1, 9, 10, 99, 100, 199, 200):
            self.assert_bool(True, is_text, "x" * many)
            self.assertEqual(frame("x" * many), str(many) + ":" + "x" * many + ",")
        for many in (201, 202, 999, 1000):
            self.assert_bool(False, is_text, "x" * many)
            self.assert_error(BadText, {"thing": "x" * many}, frame, "x" * many)

    def test_characters(self):
        self.assertEqual((PLAIN[0], PLAIN[-1], len(PLAIN)), (" ", "~", 95))
        self.assert_bool(True, is_text, PLAIN)
        for char in PLAIN:
            for text in (char, char + "a", "a" + char, char * 200):
                self.assert_bool(True, is_text, text)
                self.assertEqual(frame(text), f"{len(text)}:{text},")
        for char in NOT_PLAIN:
            for text in (char, char + "a", "a" + char, "a" + char + "a", "a" * 199 + char):
                self.assert_bool(False, is_text, text)
                self.assert_error(BadText, {"thing": text}, frame, text)

    def test_any_values(self):
        for thing in NO_STRINGS:
            self.assert_bool(False, is_text, thing)
            self.assert_error(BadText, {"thing": thing}, frame, thing)

    def test_frames_of_what_looks_like_frames(self):
        self.assertEqual([frame(","), frame("1:a,"), frame(":"), frame("  ")], ["1:,,", "4:1:a,,", "1::,", "2:  ,"])


class Rests(Checks, unittest.TestCase):

    def test_proper_prefixes(self):
        for text in ("", "a", ",", ":", "4:look,", "look", "x" * 10, " " * 99, "~" * 100, PLAIN, "x" * 200):
            whole = frame(text)
            for many in range(len(whole)):
                self.assert_bool(True, is_rest, whole[:many])
            for more in ("", "0", ",", ":", " "):
                self.assert_bool(False, is_rest, whole + more)

    def test_edges(self):
        for thing in RESTS:
            self.assert_bool(True, is_rest, thing)
        for thing in NO_RESTS + NO_STRINGS:
            self.assert_bool(False, is_rest, thing)

    def test_lengths(self):
        for many in range(2000):
            self.assert_bool(many <= 200, is_rest, str(many))
            self.assert_bool(many <= 200, is_rest, f"{many}:")
            self.assert_bool(False, is_rest, f"0{many}")

    def test_all_short_strings(self):
        for many in range(5):
            for chars in product("012:,a\n", repeat=many):
                thing = "".join(chars)
                wanted = looks_like_prefix(thing) and not is_whole(thing)
                self.assert_bool(wanted, is_rest, thing)


class Reading(Checks, unittest.TestCase):

    def test_nothing(self):
        for rest in RESTS:
            self.assertEqual(read(rest, ""), ("read", (), rest))

    def test_one_character_after_each_rest(self):
        for rest in RESTS:
            for char in list(PLAIN) + NOT_PLAIN:
                self.assertEqual(read(rest, char), read_slowly(rest, char), (rest, char))

    def test_texts_of_all_lengths(self):
        texts = tuple("x" * many for many in range(201))
        stream = "".join(frame(text) for text in texts)
        self.assertEqual(read("", stream), ("read", texts, ""))
        self.assertEqual(read("", stream + "200"), ("read", texts, "200"))
        self.assertEqual(read("", stream + "201"), ("wrong", texts, len(stream) + 2))

    def test_all_short_streams(self):
        for rest in ("", "1", "2:", "0:"):
            for chars in product("01:,a", repeat=5):
                piece = "".join(chars)
                self.assertEqual(read(rest, piece), read_slowly(rest, piece), (rest, piece))

    def test_wrong_characters(self):
        for rest, piece, wanted in (
                ("", ":", ("wrong", (), 0)), ("", "00", ("wrong", (), 1)), ("", "1000:", ("wrong", (), 3)),
                ("", "201:", ("wrong", (), 2)), ("20", "1", ("wrong", (), 0)), ("", "0:a", ("wrong", (), 2)),
                ("1:a", ";", ("wrong", (), 0)), ("3:ab", "c,1:a1:", ("wrong", ("abc",), 5)),
                ("", "2:\n", ("wrong", (), 2)), ("2:", "a\x7f,", ("wrong", (), 1)),
                ("", "0:,0:,x", ("wrong", ("", ""), 6)), ("", " 1:a,", ("wrong", (), 0)), ("", "-1:", ("wrong", (), 0)),
                ("", "\u0663:abc,", ("wrong", (), 0)), ("1", "\u0663:", ("wrong", (), 0)), ("", "1\n:a,", ("wrong", (), 1))):
            self.assertEqual(read(rest, piece), wanted)
            self.assertEqual(read_slowly(rest, piece), wanted)

    def test_what_stands_behind_a_wrong_character_is_not_read(self):
        self.assertEqual(read("", "1:a,!" + "1:b," * 100), ("wrong", ("a",), 4))

    def test_any_cuts_give_the_same_texts(self):
        good = "".join(frame(text) for text in ("look", "", ",", "1:a,", "x" * 12, "a:b", "~ ~"))
        for stream in (good, good + "20", good + "200:abc", good + "4:look;0:,", good + "01:a,", good + "3:a\nb,"):
            wanted = read("", stream)
            self.assertEqual(wanted, read_slowly("", stream))
            self.assertEqual(read_in_pieces("", list(stream)), wanted)
            self.assertEqual(read_in_pieces("", ["", stream, ""]), wanted)
            for one, two in product(range(len(stream) + 1), repeat=2):
                if one <= two:
                    pieces = (stream[:one], stream[one:two], stream[two:])
                    self.assertEqual(read_in_pieces("", pieces), wanted, pieces)

    def test_random_streams(self):
        random = Random(12)
        for _ in range(60):
            texts = ["".join(random.choices(PLAIN, k=random.choice((0, 1, 9, 10, 30, 199, 200)))) for _ in range(5)]
            stream = "".join(frame(text) for text in texts)
            at = random.randrange(len(stream))
            changed = stream[:at] + random.choice(PLAIN + "0123456789:,\n") + stream[at + random.randrange(2):]
            for string in (stream, stream[:at], changed):
                cuts = sorted(random.randrange(len(string) + 1) for _ in range(4))
                pieces = [string[one:two] for one, two in zip([0] + cuts, cuts + [len(string)])]
                wanted = read_slowly("", string)
                self.assertEqual(read("", string), wanted)
                self.assertEqual(read_in_pieces("", pieces), wanted)
            self.assertEqual(read("", stream), ("read", tuple(texts), ""))

    def test_long_strings(self):
        self.assertEqual(read("", "0:," * 3333), ("read", ("",) * 3333, ""))
        self.assertEqual(read("", "9" * 10000), ("wrong", (), 2))
        self.assertEqual(read("200:", "x" * 10000), ("wrong", (), 200))

    def test_wrong_rests(self):
        for rest in NO_RESTS + NO_STRINGS:
            self.assert_error(BadRest, {"thing": rest}, read, rest, "")
            self.assert_error(BadRest, {"thing": rest}, read, rest, "4:look,")

    def test_wrong_pieces(self):
        for piece in NO_STRINGS:
            for rest in ("", "1", "4:loo"):
                self.assert_error(BadPiece, {"thing": piece}, read, rest, piece)

    def test_a_wrong_rest_comes_before_a_wrong_piece(self):
        for rest in ("0:,", "01", None, [], True, ("",)):
            for piece in NO_STRINGS:
                self.assert_error(BadRest, {"thing": rest}, read, rest, piece)

    def test_results_as_arguments(self):
        result = read("", "4:look,4:l")
        self.assert_bool(False, is_rest, result)
        self.assert_bool(True, is_rest, result[2])
        self.assert_error(BadRest, {"thing": result}, read, result, "")
        self.assert_error(BadPiece, {"thing": result}, read, "", result)


if __name__ == "__main__":
    unittest.main()
