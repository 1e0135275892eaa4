"""[2.1] Links, [2.2] Steps of links, and the interface of answergate/links.py."""

import unittest
from itertools import product
from random import Random

from answergate import links
from answergate.errors import BadDirection, BadLabel, BadLink, BadMessage, BadName, BadNumber, Broken
from answergate.links import broke, is_link, link_new, moved, wrote
from tests.checks import Checks
from tests.models import framed
from tests.samples import NO_NUMBERS, NO_STRINGS, NO_WORDS, PARTS, WORDS, spoiled

MOST = 10 ** 9
NUMBERS = (0, 1, 2, 10, 10 ** 6, MOST - 1, MOST)
TOWARD = (("ask", 1, ""), ("ask", MOST, "x" * 150), ("ask", 7, "4:look,"), ("past", 0, 0), ("past", MOST, MOST), ("look",))
BACK = (("hello", 1), ("hello", 0), ("answer", 1, ""), ("answer", 40, "~ " * 75), ("upto", 3, 12), ("forgot", MOST), ("well",),
        ("away", 0))
TEXT_OF = {("look",): "look", ("well",): "well"}
# Frames that are no texts of messages may be in flight, too.
FRAMES = ("0:,", "1:a,", "1:,,", "1::,", "3:0:,,", "4:look,", "9:ask 7 a b,", "10:0123456789,", "200:" + "x" * 200 + ",",
          "200:" + "," * 200 + ",", "200:" + "0:,0" * 50 + ",", "199:" + ":" * 199 + ",", "198:" + "7" * 198 + ",",
          "197:" + " " * 197 + ",", "196:" + "~" * 196 + ",")


def text_of(message):
    return " ".join(str(item) for item in message)


LENGTHS = {str(length)[:end] for length in range(201) for end in range(len(str(length)) + 1)}


def is_in_flight(string):
    """Whether a string ends where a frame ends, if it begins at any place of a frame, and goes on with frames.

    All places are followed at once: heads has the digits that stand at the beginning of the frame, and bit n of texts
    says that n characters of the text and the comma are still to come.
    """
    heads, texts = set(LENGTHS), 2 ** 201 - 1
    for char in string:
        ends = char == "," and texts % 2 == 1
        texts = texts // 2 if " " <= char <= "~" else 0
        if char == ":":
            for head in heads - {""}:
                texts |= 2 ** int(head)
        heads = {head + char for head in heads} & LENGTHS
        if ends:
            heads.add("")
    return "" in heads


def is_plain_link(thing):
    """What [2.1] says of a link."""
    def is_kind(value, kind):
        return type(value) is kind
    if not is_kind(thing, tuple) or len(thing) != 5:
        return False
    label, house, toward, back, state = thing
    if not is_kind(label, int) or label not in range(0, MOST + 1):
        return False
    if not is_kind(house, str) or len(house) not in range(1, 11) or not set(house) <= set("abcdefghijklmnopqrstuvwxyz"):
        return False
    if not is_kind(toward, str) or not is_kind(back, str) or not is_kind(state, str):
        return False
    if state == "open":
        return is_in_flight(toward) and is_in_flight(back)
    return state == "broken" and toward + back == ""


def is_ask(thing):
    if type(thing) is not tuple or len(thing) != 3 or thing[0] != "ask":
        return False
    _, number, body = thing
    if type(number) is not int or type(body) is not str:
        return False
    return 1 <= number <= MOST and len(body) <= 150 and all(" " <= char <= "~" for char in body)


class Interface(Checks, unittest.TestCase):

    def test_parameters(self):
        self.assert_interface(links, {
            "is_link": ["thing"], "link_new": ["label", "house"], "wrote": ["link", "message"],
            "moved": ["link", "direction", "many"], "broke": ["link"]})

    def test_by_name(self):
        link = link_new(house="ann", label=1)
        self.assertEqual(link, (1, "ann", "", "", "open"))
        self.assertIs(is_link(thing=link), True)
        link = wrote(message=("look",), link=link)
        self.assertEqual(link, (1, "ann", "4:look,", "", "open"))
        self.assertEqual(moved(many=2, direction="toward", link=link), ((1, "ann", "look,", "", "open"), "4:"))
        self.assertEqual(broke(link=link), (1, "ann", "", "", "broken"))


class Forms(Checks, unittest.TestCase):

    def in_flight(self, string):
        """All is_link says of a string in flight, both ways."""
        wanted = is_in_flight(string)
        self.assert_bool(wanted, is_link, (1, "ann", string, "", "open"))
        self.assert_bool(wanted, is_link, (1, "ann", "", string, "open"))
        self.assert_bool(string == "", is_link, (1, "ann", string, "", "broken"))
        self.assert_bool(string == "", is_link, (1, "ann", "", string, "broken"))
        return wanted

    def test_each_suffix_of_a_frame(self):
        for frame in FRAMES:
            for start in range(len(frame) + 1):
                self.assertTrue(self.in_flight(frame[start:]))

    def test_each_suffix_before_frames(self):
        for frame in FRAMES:
            for start in range(len(frame) + 1):
                for behind in ("0:,", "4:look,4:well,", FRAMES[8] + FRAMES[9]):
                    self.assert_bool(True, is_link, (1, "ann", frame[start:] + behind, behind, "open"))
                    self.assert_bool(True, is_link, (1, "ann", "", frame[start:] + behind, "open"))

    def test_only_the_first_frame_may_be_cut(self):
        for frame, before in product(FRAMES, ("4:look,", FRAMES[8])):
            for start in range(1, len(frame), 5):
                self.in_flight(before + frame[start:])

    def test_no_frame_may_be_cut_at_its_end(self):
        for frame in FRAMES:
            for end in range(1, len(frame)):
                self.in_flight(frame[:end])
                self.in_flight("4:look," + frame[:end])

    def test_longest_suffixes(self):
        for length in range(190, 202):
            for head in ("", ":", "0:", "7:", "97:", "00:", f"{length}:", f"{length % 100}:", f"{length % 10}:", "1" + f"{length}:"):
                for char in "x:,0 ":
                    self.in_flight(head + char * length + ",")
        self.assertTrue(self.in_flight("x" * 200 + ","))
        self.assertTrue(self.in_flight(":" + "x" * 200 + ","))
        self.assertTrue(self.in_flight("00:" + "x" * 200 + ","))
        self.assertTrue(self.in_flight("197:" + "x" * 197 + ","))
        for string in ("x" * 201 + ",", "1:" + "x" * 200 + ",", "10:" + "x" * 200 + ",", "98:" + "x" * 199 + ",",
                       "x:" + "x" * 199 + ",", "0200:" + "x" * 200 + ",", "x200:" + "x" * 200 + ",", "201:" + "x" * 201 + ",",
                       "196:" + "x" * 197 + ","):
            self.assertFalse(self.in_flight(string), string)

    def test_no_split_is_right(self):
        for string in ("x", "4", "4:", "4:look", "look", ":", "0:", "look,4", "look,4:look", ",,", "a,b,4:loo", "4:look,4:look",
                       "\n", "\n,", "a\n,", "\x7f,", "\x1f,", "\xe9,", "\u2028,", "4:lo\nk,", "look\n,4:look,", "4:look,\n",
                       "x" * 200, "x" * 201, "x" * 1000, "x," * 103 + "x", "0:," * 100 + "0:", "0:," * 100 + "00:,"):
            self.assertEqual(self.in_flight(string), string == ",,")

    def test_more_than_one_split_is_right(self):
        for string in ("0:,0:,", ",0:,", "3:0:,,", "0:,,", "x,0:,0:,0:,", "1:,,1:,,", "0:," * 68, "0:," * 1000, "," + "1:,," * 500):
            self.assertTrue(self.in_flight(string), string)

    def test_short_strings(self):
        for length in range(6):
            for chars in product("01:,", repeat=length):
                self.in_flight("".join(chars))

    def test_random_strings(self):
        random = Random(21)
        for _ in range(1500):
            string = "".join(random.choice(FRAMES[:8] + ("1:", "2:,", "x", ",", "0", "3:")) for _ in range(random.randrange(6)))
            self.in_flight(string[random.randrange(len(string) + 1):])

    def test_each_part(self):
        for label, house in product(NUMBERS, WORDS):
            for toward, back in product(("", "4:look,", "ok,"), repeat=2):
                self.assert_bool(True, is_link, (label, house, toward, back, "open"))
                self.assert_bool(toward == back == "", is_link, (label, house, toward, back, "broken"))
        for label in NO_NUMBERS:
            self.assert_bool(False, is_link, (label, "ann", "", "", "open"))
            self.assert_bool(False, is_link, (label, "ann", "", "", "broken"))
        for house in NO_WORDS:
            self.assert_bool(False, is_link, (1, house, "", "", "open"))
            self.assert_bool(False, is_link, (1, house, "", "", "broken"))
        for part in PARTS:
            if part not in ("open", "broken"):
                self.assert_bool(False, is_link, (1, "ann", "", "", part))
        for part in NO_STRINGS:
            for state in ("open", "broken"):
                self.assert_bool(False, is_link, (1, "ann", part, "", state))
                self.assert_bool(False, is_link, (1, "ann", "", part, state))

    def test_spoiled_links(self):
        for link in ((1, "ann", "", "", "open"), (0, "b", "ok,4:look,", "4:well,", "open"), (MOST, "abcdefghij", "", "", "broken")):
            self.assertTrue(is_plain_link(link))
            for thing in spoiled(link):
                self.assert_bool(is_plain_link(thing), is_link, thing)

    def test_all_raise_bad_link(self):
        for link in ((1, "ann", "", "", "open"), (0, "b", "ok,4:look,", "4:well,", "open")):
            for thing in spoiled(link):
                if not is_plain_link(thing):
                    self.assert_error(BadLink, {"thing": thing}, wrote, thing, ("look",))
                    self.assert_error(BadLink, {"thing": thing}, moved, thing, "toward", 1)
                    self.assert_error(BadLink, {"thing": thing}, broke, thing)


class Steps(Checks, unittest.TestCase):

    def test_new(self):
        for label, house in product(NUMBERS, WORDS):
            self.assertEqual(link_new(label, house), (label, house, "", "", "open"))

    def test_new_errors(self):
        for label in NO_NUMBERS:
            self.assert_error(BadLabel, {"thing": label}, link_new, label, "ann")
            self.assert_error(BadLabel, {"thing": label}, link_new, label, "Ann")
        for house in NO_WORDS:
            self.assert_error(BadName, {"thing": house}, link_new, 0, house)

    def test_writing_each_message(self):
        for before in ("", "ok,", "4:look,0:,"):
            link = (3, "ann", before, before, "open")
            for message in TOWARD:
                self.assertEqual(wrote(link, message), (3, "ann", before + framed(text_of(message)), before, "open"))
            for message in BACK:
                self.assertEqual(wrote(link, message), (3, "ann", before, before + framed(text_of(message)), "open"))

    def test_writing_errors(self):
        for link in (link_new(3, "ann"), broke(link_new(3, "ann"))):
            for message in spoiled(("ask", 1, "a")):
                if not is_ask(message):
                    self.assert_error(BadMessage, {"thing": message}, wrote, link, message)
        for message in TOWARD + BACK:
            for label in (0, 3, MOST):
                self.assert_error(Broken, {"thing": label}, wrote, broke(link_new(label, "ann")), message)

    def test_moving_each_number(self):
        link = wrote(wrote(wrote(link_new(1, "ann"), ("look",)), ("ask", 1, "a b")), ("away", 2))
        toward, back = "4:look,9:ask 1 a b,", "6:away 2,"
        for many in (*range(30), MOST):
            self.assertEqual(moved(link, "toward", many), ((1, "ann", toward[many:], back, "open"), toward[:many]))
            self.assertEqual(moved(link, "back", many), ((1, "ann", toward, back[many:], "open"), back[:many]))
            self.assert_bool(True, is_link, moved(link, "toward", many)[0])

    def test_moving_on_links_without_flight(self):
        for link in (link_new(1, "ann"), broke(link_new(1, "ann"))):
            for direction, many in product(("toward", "back"), (0, 1, 7, MOST)):
                self.assertEqual(moved(link, direction, many), (link, ""))

    def test_moving_errors(self):
        for link in (link_new(1, "ann"), wrote(link_new(1, "ann"), ("look",)), broke(link_new(1, "ann"))):
            for direction in PARTS + ("Toward", "toward ", "forth", ("toward",), ["back"], "towardback", "t", "back\n"):
                self.assert_error(BadDirection, {"thing": direction}, moved, link, direction, 1)
                self.assert_error(BadDirection, {"thing": direction}, moved, link, direction, -1)
            for direction, many in product(("toward", "back"), NO_NUMBERS):
                self.assert_error(BadNumber, {"thing": many}, moved, link, direction, many)

    def test_breaking(self):
        for link in (link_new(1, "ann"), wrote(link_new(1, "ann"), ("look",)), wrote(link_new(1, "ann"), ("well",)),
                     (1, "ann", "ok,4:look,", "x,", "open")):
            end = (1, "ann", "", "", "broken")
            self.assertEqual(broke(link), end)
            self.assertEqual(broke(broke(link)), end)
            self.assert_bool(True, is_link, end)

    def test_what_arrived_is_a_prefix_of_what_was_written(self):
        random = Random(22)
        for _ in range(60):
            link = link_new(random.randrange(10), "ann")
            written, arrived = {"toward": "", "back": ""}, {"toward": "", "back": ""}
            for _ in range(40):
                side = random.choice(("toward", "back"))
                if random.random() < 0.4:
                    message = random.choice(TOWARD if side == "toward" else BACK)
                    link = wrote(link, message)
                    written[side] += framed(text_of(message))
                else:
                    link, chars = moved(link, side, random.choice((0, 1, 2, 3, 10, 50, 500)))
                    arrived[side] += chars
                self.assertEqual(link[1:2] + link[4:], ("ann", "open"))
                self.assertEqual((arrived["toward"] + link[2], arrived["back"] + link[3]), (written["toward"], written["back"]))
                self.assertTrue(is_plain_link(link))
                self.assert_bool(True, is_link, link)

    def test_at_the_limits(self):
        link = link_new(10 ** 6, "abcdefghij")
        for number in range(1, 41):
            link = self.assert_quick(wrote, link, ("ask", number, "x" * 150))
            link = self.assert_quick(wrote, link, ("answer", number, "," * 150))
        for _ in range(50):
            link, chars = self.assert_quick(moved, link, "toward", 101)
            self.assertEqual(len(chars), 101)
            link, chars = self.assert_quick(moved, link, "back", 102)
            self.assertEqual(len(chars), 102)
        self.assertEqual(self.assert_quick(broke, link), (10 ** 6, "abcdefghij", "", "", "broken"))


if __name__ == "__main__":
    unittest.main()
