"""[3.1] Houses, [3.2] Steps of houses, and the interface of answergate/houses.py."""

import unittest
from itertools import permutations, product
from random import Random

from answergate import houses
from answergate.errors import BadHouse, BadLabel, BadName, BadPiece, IsUp, NotDue, NothingDue, NotUp
from answergate.houses import answered, began, fell, house_new, is_house, left, met, rose, took
from tests.checks import Checks
from tests.models import PlainHouse, framed, stage
from tests.samples import NO_NUMBERS, NO_STRINGS, NO_WORDS, PARTS, WORDS, spoiled

MOST = 10 ** 9
# Rows of all states, and one whose label is equal to True.
ROWS = (
    (0, "", ("a", "b"), 2, (1, 2), "closed"), (1, "9:ask 4", ("ab", "", "c"), 1, (1,), "open"),
    (3, "1", ("~", " "), 2, (2,), "away"), (7, "", (), 0, (), "open"), (MOST, "", (), 0, (), "closed"),
)
HOUSE = ("ann", 5, True, False, ROWS)
LEAVING = ("ann", 5, True, True, (ROWS[0], ROWS[2]))
DOWN = ("bob", 2, False, False, ())
HOUSES = (HOUSE, LEAVING, DOWN, ("abcdefghij", MOST, True, False, ()), ("b", 1, True, True, ()))


def is_kind(thing, kind):
    # A bool is an integer for isinstance.
    return type(thing) is kind


def is_plain_body(thing):
    return is_kind(thing, str) and len(thing) <= 150 and all(" " <= char <= "~" for char in thing)


def is_plain_row(thing):
    """What [3.1] says of a row."""
    if not is_kind(thing, tuple) or len(thing) != 6:
        return False
    label, rest, came, begun, done, state = thing
    kinds = (int, str, tuple, int, tuple, str)
    if not all(map(is_kind, thing, kinds)) or not 0 <= label <= MOST or not all(map(is_plain_body, came)):
        return False
    if stage(rest) != "part" or not 0 <= begun <= len(came) or state not in ("open", "away", "closed"):
        return False
    if not all(is_kind(number, int) and 1 <= number <= begun for number in done):
        return False
    if any(one >= two for one, two in zip(done, done[1:])):
        return False
    return (state == "open" or len(came) == begun) and (state != "closed" or rest == "")


def is_plain_house(thing):
    """What [3.1] says of a house."""
    if not is_kind(thing, tuple) or len(thing) != 5:
        return False
    name, boot, up, leaving, rows = thing
    if not all(map(is_kind, thing, (str, int, bool, bool, tuple))) or not 1 <= boot <= MOST:
        return False
    if not all(map(is_plain_row, rows)):
        return False
    if not 1 <= len(name) <= 10 or any(char not in "abcdefghijklmnopqrstuvwxyz" for char in name):
        return False
    if any(one[0] >= two[0] for one, two in zip(rows, rows[1:])):
        return False
    if not up and (leaving or rows):
        return False
    return not leaving or all(row[5] != "open" for row in rows)


def row(house, label):
    return {found[0]: found for found in house[4]}[label]


def others(house, *labels):
    return [found for found in house[4] if found[0] not in labels]


def took_in_pieces(house, label, pieces):
    messages, whole = (), True
    for piece in pieces:
        house, more, good = took(house, label, piece)
        messages += more
        whole = whole and good
    return (house, messages, whole)


class Interface(Checks, unittest.TestCase):

    def test_parameters(self):
        self.assert_interface(houses, {
            "is_house": ["thing"], "house_new": ["name"], "met": ["house", "label"], "took": ["house", "label", "piece"],
            "began": ["house", "label"], "answered": ["house", "label", "number"], "left": ["house"], "fell": ["house"],
            "rose": ["house"]})

    def test_by_name(self):
        house, hello = met(label=3, house=house_new(name="ann"))
        self.assertEqual(hello, (("hello", 1),))
        house, _, whole = took(piece="8:ask 1 ab,", label=3, house=house)
        self.assertIs(whole, True)
        house, answer = answered(number=1, label=3, house=began(label=3, house=house))
        self.assertEqual(answer, ("answer", 1, "ba"))
        self.assertEqual(left(house=house)[1], ((3, ("away", 1)),))
        self.assertEqual(rose(house=fell(house=house)), ("ann", 2, True, False, ()))
        self.assertIs(is_house(thing=house), True)


class Forms(Checks, unittest.TestCase):

    def test_houses(self):
        for house in HOUSES:
            self.assertTrue(is_plain_house(house))
            self.assert_bool(True, is_house, house)

    def test_one_part_otherwise(self):
        for house in HOUSES:
            for thing in spoiled(house):
                self.assert_bool(is_plain_house(thing), is_house, thing)

    def test_each_part_of_a_row(self):
        labels, rests = (-1, 0, MOST, MOST + 1, True), ("", "4", "4:look", "4:look,", "04")
        cames = ((), ("a",), ("a", "b"), ("a", "x" * 150), ("a", "x" * 151), ["a"], ("a", 1), ("a", "\n"))
        dones = ((), (1,), (2,), (1, 2), (2, 1), (1, 1), (0,), (True,), [1], (3,), ("1",))
        for label, rest, came in product(labels, rests, cames):
            for begun, done, state in product((-1, 0, 1, 2, 3, True), dones, ("open", "away", "closed", "Open")):
                one = (label, rest, came, begun, done, state)
                house = ("ann", 1, True, False, (one,))
                self.assertIs(is_house(house), is_plain_house(house), house)

    def test_each_state_of_a_house(self):
        for rows in ((), ROWS[:1], ROWS[1:2], ROWS[2:3], ROWS[2:4]):
            for up, leaving in product((True, False, 1, 0, None), repeat=2):
                house = ("ann", 1, up, leaving, rows)
                self.assert_bool(is_plain_house(house), is_house, house)

    def test_order_of_rows(self):
        for rows in permutations(ROWS[:4]):
            self.assert_bool(rows == ROWS[:4], is_house, ("ann", 1, True, False, rows))
        for one in ROWS:
            self.assert_bool(False, is_house, ("ann", 1, True, False, (one, one)))
        self.assert_bool(False, is_house, ("ann", 1, True, False, list(ROWS)))

    def test_boots(self):
        for boot, wanted in ((1, True), (MOST, True), (0, False), (-1, False), (MOST + 1, False), (True, False), ("1", False)):
            self.assert_bool(wanted, is_house, ("ann", boot, True, False, ()))

    def test_many_rows_and_requests(self):
        rows = tuple((label, "", ("x" * 150,) * 40, 40, tuple(range(1, 41)), "open") for label in range(12))
        self.assert_bool(True, is_house, ("ann", 10 ** 6, True, False, rows))
        self.assert_bool(False, is_house, ("ann", 10 ** 6, True, True, rows))

    def test_all_raise_bad_house_first(self):
        calls = ((met, "a"), (took, "a", 1), (took, 1, ""), (began, None), (answered, [], 0), (left,), (fell,), (rose,))
        for house in (HOUSE, LEAVING, DOWN):
            for thing in spoiled(house):
                if not is_plain_house(thing):
                    for function, *more in calls:
                        self.assert_error(BadHouse, {"thing": thing}, function, thing, *more)


class New(Checks, unittest.TestCase):

    def test_new(self):
        for name in WORDS:
            self.assert_result((name, 1, True, False, ()), house_new, name)

    def test_wrong_names(self):
        for name in NO_WORDS:
            self.assert_error(BadName, {"thing": name}, house_new, name)


class Meeting(Checks, unittest.TestCase):

    def test_labels_in_any_order(self):
        rows = tuple((label, "", (), 0, (), "open") for label in (0, 2, 5, MOST))
        for labels in permutations((0, 2, 5, MOST)):
            house = ("ann", 7, True, False, ())
            for label in labels:
                house, hello = met(house, label)
                self.assertEqual(hello, (("hello", 7),))
                self.assert_bool(True, is_house, house)
            self.assertEqual(house, ("ann", 7, True, False, rows))

    def test_beside_other_rows(self):
        after = ("ann", 5, True, False, ROWS[:3] + ((4, "", (), 0, (), "open"),) + ROWS[3:])
        self.assert_result((after, (("hello", 5),)), met, HOUSE, 4)

    def test_refusing(self):
        for house in (LEAVING, DOWN, left(house_new("ann"))[0], fell(HOUSE)):
            for label in (5, 6, MOST - 1):
                self.assert_result((house, ()), met, house, label)

    def test_wrong_labels(self):
        for house in HOUSES:
            for label in NO_NUMBERS:
                self.assert_error(BadLabel, {"thing": label}, met, house, label)
        for house in (HOUSE, LEAVING):
            for label, *_ in house[4]:
                self.assert_error(BadLabel, {"thing": label}, met, house, label)


class Labels(Checks, unittest.TestCase):

    def test_wrong_labels_come_before_other_errors(self):
        for house in HOUSES:
            labels = [found[0] for found in house[4]]
            for label in NO_NUMBERS + tuple(number for number in (0, 1, 2, 3, 4, 7, 8, MOST) if number not in labels):
                for piece in ("", "4:look,", None):
                    self.assert_error(BadLabel, {"thing": label}, took, house, label, piece)
                self.assert_error(BadLabel, {"thing": label}, began, house, label)
                for number in (1, 0, None):
                    self.assert_error(BadLabel, {"thing": label}, answered, house, label, number)


class Taking(Checks, unittest.TestCase):

    def alike(self, house, label, piece, wanted):
        """The piece has this result, at once and cut at any place or everywhere."""
        self.assert_result(wanted, took, house, label, piece)
        self.assertEqual(took_in_pieces(house, label, list(piece)), wanted)
        for at in range(len(piece) + 1):
            self.assertEqual(took_in_pieces(house, label, (piece[:at], piece[at:])), wanted, (piece[:at], piece[at:]))

    def changed(self, house, new):
        rows = {found[0]: found for found in house[4]}
        rows.update({found[0]: found for found in new})
        return house[:4] + (tuple(rows[label] for label in sorted(rows)),)

    def test_nothing(self):
        for house in HOUSES:
            for label, *_ in house[4]:
                self.assert_result((house, (), True), took, house, label, "")

    def test_asks(self):
        house = self.changed(HOUSE, [(7, "4:l", ("x", "", "a b ", "x" * 150), 0, (), "open")])
        self.alike(HOUSE, 7, framed("ask 1 x", "ask 2 ", "ask 3 a b ", "ask 4 " + "x" * 150) + "4:l", (house, (), True))

    def test_asks_after_a_rest(self):
        # The row has the rest of an ask with three characters more.
        after = self.changed(HOUSE, [(1, "", ("ab", "", "c", "x y", "4:"), 1, (1,), "open")])
        self.alike(HOUSE, 1, " x y,8:ask 5 4:,", (after, (), True))

    def test_looks(self):
        for label in (1, 3, 7):
            before = self.changed(HOUSE, [(label, "") + row(HOUSE, label)[2:]])
            for many in range(4):
                self.alike(before, label, "4:look," * many, (before, (("well",),) * many, True))
            after = self.changed(before, [(label, "4:loo") + row(HOUSE, label)[2:]])
            self.alike(before, label, "4:look,4:loo", (after, (("well",),), True))

    def test_asks_on_a_row_that_is_away_are_ignored(self):
        before = self.changed(HOUSE, [(3, "") + row(HOUSE, 3)[2:]])
        for number in (1, 2, 3, 4, MOST):
            self.alike(before, 3, framed(f"ask {number} x", "look"), (before, (("well",),), True))

    def test_nothing_is_read_on_a_closed_row(self):
        for label in (0, MOST):
            for piece in ("4", "4:look,", "x", "\n", "~" * 1000, *map(framed, ("ask 3 x", "ask 9 x", "past 1 5", "well"))):
                self.alike(HOUSE, label, piece, (HOUSE, (), True))

    def test_pasts_with_another_boot(self):
        for label in (1, 3, 7):
            before = self.changed(HOUSE, [(label, "") + row(HOUSE, label)[2:]])
            for other, boot in product((0, 1, 2, 3, 7, 8, MOST), (0, 4, 6, MOST)):
                if other != label:
                    self.alike(before, label, framed(f"past {other} {boot}"), (before, (("forgot", other),), True))

    def test_pasts_with_the_boot(self):
        before = self.changed(HOUSE, [(label, "") + row(HOUSE, label)[2:] for label in (1, 3)])
        ends = {0: (("a", "b"), 2, (1, 2)), 1: (("ab",), 1, (1,)), 3: (("~", " "), 2, (2,)),
                **{other: ((), 0, ()) for other in (2, 7, 8, MOST - 1, MOST)}}
        for label, other in product((1, 3, 7), ends):
            if other != label:
                came, begun, done = ends[other]
                after = self.changed(before, [(other, "", came, begun, done, "closed")])
                for many in (1, 2):
                    self.alike(before, label, framed(f"past {other} 5") * many, (after, (("upto", other, begun),) * many, True))

    def test_a_past_discards_the_rest_of_the_other_row(self):
        after = took(HOUSE, 7, framed("past 1 5"))[0]
        self.assertEqual(row(after, 1), (1, "", ("ab",), 1, (1,), "closed"))
        self.assertEqual(took(after, 1, " x y,"), (after, (), True))

    def test_a_link_met_only_by_a_past_is_not_met_any_more(self):
        after = took(HOUSE, 7, framed("past 4 5"))[0]
        self.assert_error(BadLabel, {"thing": 4}, met, after, 4)
        self.assert_error(NothingDue, {"label": 4}, began, after, 4)
        self.assert_error(NotDue, {"number": 1}, answered, after, 4, 1)

    def test_wrong_pieces(self):
        for house, label in ((HOUSE, 0), (HOUSE, 1), (HOUSE, 3), (LEAVING, 3)):
            for piece in NO_STRINGS:
                self.assert_error(BadPiece, {"thing": piece}, took, house, label, piece)

    def test_at_the_limits(self):
        rows = tuple((label, "", ("x" * 150,) * 40, 20, tuple(range(1, 20)), "open") for label in range(11))
        house = ("ann", 10 ** 6, True, False, rows + ((11, "", (), 0, (), "open"),))
        piece = framed(*[f"ask {number} " + "x" * 150 for number in range(1, 41)])
        after, messages, whole = self.assert_quick(took, house, 11, piece)
        self.assertEqual((row(after, 11), messages, whole), ((11, "", ("x" * 150,) * 40, 0, (), "open"), (), True))
        _, messages, whole = self.assert_quick(took, after, 11, framed("past 3 1000000") * 588)
        self.assertEqual((messages, whole), ((("upto", 3, 20),) * 588, True))
        _, messages, whole = self.assert_quick(took, after, 11, "4:look," * 1428)
        self.assertEqual((messages, whole), ((("well",),) * 1428, True))


WRONG = ("x", ":", "04", "00", "201", "999", "4;", "4:look;", "4:look ", "4:lookk,", "4:lo\nk", "4:lo\x7fk", "\n", " ", ",", "-1:",
         "\xe9", "4:\xe9")
NO_MESSAGES = ("", " ", "foo", "look ", " look", "LOOK", "look 1", "ask", "ask 4", "ask  4 x", "ask 0 x", "ask 04 x", "ask -4 x",
               "ask x y", "ask 1000000001 x", "ask 4 " + "x" * 151, "past", "past 1", "past 3 ", "past 3 05", "past 3 5 ",
               "past 3 5 1", "past 1000000001 5", "past 3 1000000001", "well ", "x" * 200, ",", "4:look,")
FROM_HOUSE = ("hello 5", "hello 0", "answer 1 ba", "answer 1 ", "upto 3 2", "upto 1 1", "forgot 3", "well", "away 1", "away 0")
OTHER_ASKS = ("ask 1 x", "ask 2 x", "ask 3 c", "ask 5 x", "ask 6 x", "ask 1000000000 x")


class Offences(Checks, unittest.TestCase):

    HOUSE = ("ann", 5, True, False, (
        (1, "", ("ab", "b", "c"), 1, (1,), "open"), (2, "", ("~", "d"), 2, (2,), "away"), (3, "1", ("e", "f"), 0, (), "open")))

    def offends(self, label, piece):
        """The piece is an offence, at once and in pieces, and nothing behind it counts, nor does anything later."""
        rows = {found[0]: found for found in self.HOUSE[4]}
        _, _, came, begun, done, _ = rows[label]
        rows[label] = (label, "", came[:begun], begun, done, "closed")
        after = self.HOUSE[:4] + (tuple(rows.values()),)
        self.assert_result((after, (), False), took, self.HOUSE, label, piece)
        for behind in ("4:look,", framed("past 3 5"), "x", framed("ask 4 x")):
            self.assertEqual(took(self.HOUSE, label, piece + behind), (after, (), False))
            self.assertEqual(took(after, label, behind), (after, (), True))
        for at in range(len(piece) + 1):
            one, two = piece[:at], piece[at:]
            for pieces in ((one, two), (one, two + "4:look,", framed("past 3 5")), ("", one, "", *two)):
                self.assertEqual(took_in_pieces(self.HOUSE, label, pieces), (after, (), False), pieces)

    def counts_before(self, label, piece):
        """What was complete before the offence counts."""
        start = framed("look", "past 3 5", "past 9 4", "look")
        before, messages, whole = took(self.HOUSE, label, start)
        self.assertEqual((messages, whole), ((("well",), ("upto", 3, 0), ("forgot", 9), ("well",)), True))
        one, two, three = took(before, label, piece)
        self.assertEqual((two, three), ((), False))
        self.assertEqual(took(self.HOUSE, label, start + piece + "4:look,"), (one, messages, False))

    def test_wrong_characters(self):
        for label, piece in product((1, 2), WRONG):
            self.offends(label, piece)
            self.counts_before(label, piece)

    def test_texts_of_no_message(self):
        for label, text in product((1, 2), NO_MESSAGES):
            self.offends(label, framed(text))
            self.counts_before(label, framed(text))

    def test_messages_from_a_house(self):
        for label, text in product((1, 2), FROM_HOUSE):
            self.offends(label, framed(text))
            self.counts_before(label, framed(text))

    def test_asks_with_another_number(self):
        for text in OTHER_ASKS:
            self.offends(1, framed(text))
            self.counts_before(1, framed(text))

    def test_asks_that_come_again(self):
        after = self.HOUSE[:4] + (((1, "", ("ab",), 1, (1,), "closed"),) + self.HOUSE[4][1:],)
        self.assertEqual(took(self.HOUSE, 1, framed("ask 4 x", "ask 4 x", "ask 5 x")), (after, (), False))
        self.assertEqual(took(self.HOUSE, 1, framed("ask 4 x", "ask 6 x", "look")), (after, (), False))

    def test_pasts_with_the_own_label(self):
        for label, boot in product((1, 2), (0, 1, 5, MOST)):
            self.offends(label, framed(f"past {label} {boot}"))
            self.counts_before(label, framed(f"past {label} {boot}"))

    def test_after_a_rest(self):
        for start, end in (("4:loo", "k;"), ("20", "1"), ("7:ask 5", " x,"), ("8:past 1 ", "5,"), ("", "x"), ("4:wel", "l,")):
            house, messages, whole = took(self.HOUSE, 1, start)
            self.assertEqual((row(house, 1)[1], messages, whole), (start, (), True))
            house, messages, whole = took(house, 1, end + "4:look,")
            self.assertEqual((row(house, 1), messages, whole), ((1, "", ("ab",), 1, (1,), "closed"), (), False))

    def test_nothing_is_begun_or_answered_behind_it(self):
        house = took(self.HOUSE, 1, "x")[0]
        self.assert_error(NothingDue, {"label": 1}, began, house, 1)
        for number in range(4):
            self.assert_error(NotDue, {"number": number}, answered, house, 1, number)
        house = took(self.HOUSE, 2, "x")[0]
        self.assert_error(NotDue, {"number": 1}, answered, house, 2, 1)


class Beginning(Checks, unittest.TestCase):

    def test_in_order(self):
        house = took(met(house_new("ann"), 4)[0], 4, framed("ask 1 a", "ask 2 b", "ask 3 c") + "4:l")[0]
        for begun in range(1, 4):
            wanted = ("ann", 1, True, False, ((4, "4:l", ("a", "b", "c"), begun, (), "open"),))
            self.assert_result(wanted, began, house, 4)
            house = wanted
        self.assert_error(NothingDue, {"label": 4}, began, house, 4)

    def test_only_after_complete_arrival(self):
        piece = framed("ask 1 a")
        for at in range(len(piece)):
            house = took(met(house_new("ann"), 4)[0], 4, piece[:at])[0]
            self.assert_error(NothingDue, {"label": 4}, began, house, 4)
            self.assertEqual(began(took(house, 4, piece[at:])[0], 4)[4], ((4, "", ("a",), 1, (), "open"),))

    def test_rows_that_are_not_open(self):
        for house, label in ((HOUSE, 0), (HOUSE, 3), (HOUSE, MOST), (LEAVING, 0), (LEAVING, 3)):
            self.assert_error(NothingDue, {"label": label}, began, house, label)

    def test_other_rows_stay(self):
        after = began(HOUSE, 1)
        self.assertEqual(row(after, 1), (1, "9:ask 4", ("ab", "", "c"), 2, (1,), "open"))
        self.assertEqual(others(after, 1), others(HOUSE, 1))
        self.assertEqual(after[:4], HOUSE[:4])


class Answering(Checks, unittest.TestCase):

    BODIES = ("", "a", "ab", "abc ", " ~", "x" * 150, "level", "1:a,", "b" * 75 + "a" * 75)

    def test_replies_in_any_order(self):
        many = len(self.BODIES)
        house = ("ann", 2, True, False, ((4, "", self.BODIES, many, (), "open"),))
        for seed in range(20):
            now, done = house, []
            for number in Random(seed).sample(range(1, many + 1), many):
                done.append(number)
                after = ("ann", 2, True, False, ((4, "", self.BODIES, many, tuple(sorted(done)), "open"),))
                reply = "".join(reversed(self.BODIES[number - 1]))
                self.assert_result((after, ("answer", number, reply)), answered, now, 4, number)
                self.assert_error(NotDue, {"number": number}, answered, after, 4, number)
                now = after

    def test_not_due(self):
        for house, label, due in ((HOUSE, 1, []), (HOUSE, 3, [1]), (HOUSE, 7, []), (LEAVING, 3, [1]),
                                  (began(HOUSE, 1), 1, [2])):
            for number in range(-1, 6):
                if number not in due:
                    self.assert_error(NotDue, {"number": number}, answered, house, label, number)
            for number in NO_NUMBERS:
                self.assert_error(NotDue, {"number": number}, answered, house, label, number)

    def test_closed_rows(self):
        house = ("ann", 2, True, False, ((1, "", ("a", "b"), 2, (1,), "closed"),))
        for number in (0, 1, 2, 3, None, True):
            self.assert_error(NotDue, {"number": number}, answered, house, 1, number)

    def test_rows_that_are_away(self):
        after, message = answered(HOUSE, 3, 1)
        self.assertEqual((row(after, 3), message), ((3, "1", ("~", " "), 2, (1, 2), "away"), ("answer", 1, "~")))
        self.assertEqual(others(after, 3), others(HOUSE, 3))
        after, message = answered(LEAVING, 3, 1)
        self.assertEqual((row(after, 3), message), ((3, "1", ("~", " "), 2, (1, 2), "away"), ("answer", 1, "~")))


class Ends(Checks, unittest.TestCase):

    def test_leaving(self):
        rows = (ROWS[0], (1, "9:ask 4", ("ab",), 1, (1,), "away"), ROWS[2], (7, "", (), 0, (), "away"), ROWS[4])
        self.assert_result((("ann", 5, True, True, rows), ((1, ("away", 1)), (7, ("away", 0)))), left, HOUSE)

    def test_leaving_without_links(self):
        self.assert_result((("ann", 1, True, True, ()), ()), left, house_new("ann"))

    def test_leaving_twice(self):
        for house in (LEAVING, left(HOUSE)[0], left(house_new("ann"))[0]):
            self.assert_result((house, ()), left, house)

    def test_after_leaving(self):
        house = left(HOUSE)[0]
        self.assertEqual(met(house, 8), (house, ()))
        self.assert_error(NothingDue, {"label": 1}, began, house, 1)
        # The rest stays: what arrives is still read, but asks are ignored.
        after, messages, whole = took(house, 1, " x y,4:look,")
        self.assertEqual((row(after, 1), messages, whole), ((1, "", ("ab",), 1, (1,), "away"), (("well",),), True))

    def test_falling(self):
        for house in (HOUSE, LEAVING, house_new("ann")):
            self.assert_result(("ann", house[1], False, False, ()), fell, house)

    def test_rising(self):
        for boot in (1, 2, 10 ** 6):
            self.assert_result(("ann", boot + 1, True, False, ()), rose, ("ann", boot, False, False, ()))

    def test_not_possible(self):
        for house in (HOUSE, LEAVING, house_new("ann"), rose(DOWN)):
            self.assert_error(IsUp, {"name": house[0]}, rose, house)
        for house in (DOWN, fell(HOUSE), fell(LEAVING)):
            self.assert_error(NotUp, {"name": house[0]}, left, house)
            self.assert_error(NotUp, {"name": house[0]}, fell, house)

    def test_a_house_that_rose_has_forgotten(self):
        house = met(rose(fell(HOUSE)), 1)[0]
        self.assertEqual(house, ("ann", 6, True, False, ((1, "", (), 0, (), "open"),)))
        self.assertEqual(took(house, 1, framed("past 3 5", "past 3 6"))[1], (("forgot", 3), ("upto", 3, 0)))


class Stories(unittest.TestCase):
    """Whole stories beside the plain house."""

    TEXTS = ("look", "look", "past 1 1", "past 2 1", "past 3 2", "past 2 2", "past 5 1", "past 1 3", "ask 1 x", "ask 9 x", "well",
             "foo", "")
    STEPS = ("meet", *["write"] * 3, *["take"] * 3, *["begin"] * 2, *["answer"] * 2, "leave", "fall", "rise")

    def do(self, house, function, *arguments):
        """The result of a call, or None for one of the errors that say that it is not possible."""
        try:
            return function(house, *arguments)
        except (BadLabel, NothingDue, NotDue, NotUp, IsUp):
            return None

    def compare(self, house, plain, word, arguments):
        """Do a step in both, and return the house after it."""
        if word == "take":
            mine, wanted = self.do(house, took, *arguments), plain.take(*arguments)
            self.assertEqual(None if mine is None else mine[1:], wanted)
            return house if mine is None else mine[0]
        if word in ("begin", "fall", "rise"):
            mine = self.do(house, {"begin": began, "fall": fell, "rise": rose}[word], *arguments)
            wanted = getattr(plain, word)(*arguments)
            self.assertEqual(mine is None, wanted is None)
            return house if mine is None else mine
        mine = self.do(house, {"meet": met, "answer": answered, "leave": left}[word], *arguments)
        self.assertEqual(None if mine is None else mine[1], getattr(plain, word)(*arguments))
        return house if mine is None else mine[0]

    def next_step(self, random, flights, numbers):
        """A step and its arguments; what is written for a link waits in flights until it is taken."""
        word, label = random.choice(self.STEPS), random.randrange(1, 4)
        if word == "write":
            # Mostly the ask that is due; sometimes anything.
            text = random.choice(self.TEXTS)
            if random.random() < 0.8:
                numbers[label] = numbers.get(label, 0) + 1
                text = f"ask {numbers[label]} " + random.choice(("", "ab", "x y z", "7:ask 1 x,"))
            flights[label] = flights.get(label, "") + framed(text)
            return ("take", (label, ""))
        if word == "take":
            many = random.choice((0, 1, 2, 5, 11, 100))
            piece, flights[label] = flights.get(label, "")[:many], flights.get(label, "")[many:]
            return ("take", (label, piece))
        if word in ("leave", "fall", "rise"):
            # Seldom, so that there is something to end.
            return (word, ()) if random.random() < 0.25 else ("begin", (label,))
        return (word, (label, random.randrange(4)) if word == "answer" else (label,))

    def test_random_stories(self):
        random = Random(31)
        for _ in range(400):
            house, plain, flights, numbers = house_new("ann"), PlainHouse("ann"), {}, {}
            for _ in range(random.randrange(60)):
                word, arguments = self.next_step(random, flights, numbers)
                house = self.compare(house, plain, word, arguments)
                if word in ("fall", "rise"):
                    flights.clear()
                    numbers.clear()
                self.assertEqual(house, plain.value())
                self.assertTrue(is_house(house) and is_plain_house(house))

    STORY = (("meet", (2,)), ("meet", (1,)), ("take", (1, framed("ask 1 ab", "look", "ask 2 cd"))), ("begin", (1,)),
             ("answer", (1, 1)), ("take", (2, framed("look", "past 3 1", "past 3 2"))), ("begin", (1,)), ("leave", ()),
             ("answer", (1, 2)), ("take", (2, framed("ask 7 x", "past 1 1", "look", "well") + "4:look,")), ("fall", ()),
             ("rise", ()), ("meet", (1,)), ("take", (1, framed("past 2 1", "ask 1 z") + "3:l")), ("begin", (1,)))

    def run_story(self, cut):
        """The story with all that is taken cut by cut into pieces: all messages, and the house in the end."""
        house, plain, told = house_new("ann"), PlainHouse("ann"), []
        for word, arguments in self.STORY:
            if word != "take":
                house = self.compare(house, plain, word, arguments)
                told.append((word, house))
                continue
            messages, wholes = (), []
            for piece in cut(arguments[1]):
                mine = took(house, arguments[0], piece)
                self.assertEqual(mine[1:], plain.take(arguments[0], piece))
                house, messages = mine[0], messages + mine[1]
                wholes.append(mine[2])
            told.append((word, house, messages, all(wholes)))
        self.assertEqual(house, plain.value())
        return told

    def test_a_story_cut_at_any_place(self):
        wanted = self.run_story(lambda piece: [piece])
        self.assertEqual([entry[2:] for entry in wanted if entry[0] == "take"], [
            ((("well",),), True), ((("well",), ("upto", 3, 0), ("forgot", 3)), True), ((("upto", 1, 2), ("well",)), False),
            ((("forgot", 2),), True)])
        self.assertEqual(wanted[-1][1], ("ann", 2, True, False, ((1, "3:l", ("z",), 1, (), "open"),)))
        self.assertEqual(self.run_story(list), wanted)
        for at in range(60):
            self.assertEqual(self.run_story(lambda piece: [piece[:at], piece[at:]]), wanted)
        for many in range(2, 30):
            self.assertEqual(self.run_story(lambda piece: [piece[at:at + many] for at in range(0, len(piece), many)]), wanted)


class Orders(Checks, unittest.TestCase):

    def test_any_part_is_no_house(self):
        for part in PARTS:
            self.assert_bool(False, is_house, part)
            self.assert_error(BadHouse, {"thing": part}, answered, part, part, part)

    def test_results_are_no_arguments(self):
        for result in (met(house_new("ann"), 1), left(house_new("ann")), took(HOUSE, 1, "")):
            self.assert_bool(False, is_house, result)
            self.assert_bool(True, is_house, result[0])
            self.assert_error(BadHouse, {"thing": result}, took, result, 1, "")
            self.assert_error(BadLabel, {"thing": result}, took, HOUSE, result, "")
            self.assert_error(BadPiece, {"thing": result}, took, HOUSE, 1, result)


if __name__ == "__main__":
    unittest.main()
