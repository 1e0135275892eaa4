"""[4.1] to [4.5] Views, bounds, stories, certificates, and the interface of answergate/knowledge.py."""

import unittest
from itertools import combinations, product
from random import Random

from answergate import knowledge
from answergate.errors import BadBody, BadMessage, BadName, BadNews, BadNumber, BadStory, BadView, Broken, NotOpen
from answergate.knowledge import (
    asked, bounds, broken, fate, heard, is_view, stories_hold, story_begins, told_upto, two_stories, view_new)
from tests.checks import Checks
from tests.models import PlainHouse, framed, played
from tests.samples import NO_NUMBERS, NO_STRINGS, NO_WORDS, WORDS, spoiled

MOST = 10 ** 9
BODIES = ("", "ab", "x y", "7:ask 1 x,")
LONG = ("x" * 150,) * 40
VIEWS = (
    ("ann", None, (), (), None, None, "open"), ("ann", None, ("a",), (), None, None, "broken"),
    ("ann", 3, ("a", "b", "c", "d"), (1, 3), None, None, "open"), ("b", 0, ("a", "b", "c"), (1, 2), 2, 2, "broken"),
    ("abcdefghij", MOST, ("x" * 150, ""), (), 1, None, "open"), ("ann", 1, ("a", "b"), (2,), None, 2, "broken"),
    ("ann", 1, ("a", "b"), (), 0, 0, "open"),
)
NO_BODIES = NO_STRINGS + ("x" * 151, "\n", "a\n", "\x7f", "\x1f", "\xe9", "x" * 1000)


def is_kind(thing, kind):
    # A bool is an integer for isinstance.
    return type(thing) is kind


def is_plain_body(thing):
    return is_kind(thing, str) and len(thing) <= 150 and all(" " <= char <= "~" for char in thing)


def is_plain_view(thing):
    """What [4.1] says of a view."""
    if not is_kind(thing, tuple) or len(thing) != 7:
        return False
    house, boot, bodies, answers, away, upto, state = thing
    if not is_kind(house, str) or not 1 <= len(house) <= 10 or not set(house) <= set("abcdefghijklmnopqrstuvwxyz"):
        return False
    if not is_kind(bodies, tuple) or not all(map(is_plain_body, bodies)) or not is_kind(answers, tuple):
        return False
    if not is_kind(state, str) or state not in ("open", "broken"):
        return False
    if boot is None:
        return answers == () and away is None and upto is None
    most = len(bodies)
    for end in (away, upto):
        if end is not None:
            if not is_kind(end, int) or not 0 <= end <= len(bodies):
                return False
            most = min(most, end)
    if away is not None and upto is not None and away != upto:
        return False
    if not is_kind(boot, int) or not 0 <= boot <= MOST:
        return False
    if not all(is_kind(number, int) and 1 <= number <= most for number in answers):
        return False
    return all(one < two for one, two in zip(answers, answers[1:]))


def all_views(most, boots=(None, 1), states=("open", "broken")):
    """All views with at most so many requests."""
    for many in range(most + 1):
        numbers = range(many + 1)
        subsets = [some for length in numbers for some in combinations(range(1, many + 1), length)]
        for boot, answers, away, upto, state in product(boots, subsets, (None, *numbers), (None, *numbers), states):
            view = ("ann", boot, BODIES[:many], answers, away, upto, state)
            if is_plain_view(view):
                yield view


def plain_bounds(view):
    """[4.2], word by word."""
    _, _, bodies, answers, away, upto, _ = view
    given = [end for end in (away, upto) if end is not None]
    return (max([0, *answers, *given]), given[0] if given else len(bodies))


def fitting(view, story):
    """What story_begins is to return: by the plain steps of models.py."""
    end = played(view[2], story)
    if end is None or end[1:] != (view[3], view[4], view[5]):
        return None
    return end[0]


def played_by_house(view, story):
    """The same by a whole plain house with two links."""
    house = PlainHouse("ann")
    house.meet(1)
    house.meet(2)
    flight = framed(*[f"ask {at + 1} {body}" for at, body in enumerate(view[2])])
    answers, away, upto = [], None, None
    for word, *number in story:
        if word == "take":
            if number[0] > len(flight):
                return None
            wanted = house.take(1, flight[:number[0]])
            flight = flight[number[0]:]
        elif word == "begin":
            wanted = house.begin(1)
        elif word == "answer":
            wanted = house.answer(1, number[0])
            answers.append(number[0])
        elif word == "leave":
            wanted = None if house.leaving else house.leave()
            away = dict(wanted or ()).get(1, (None, away))[1]
        else:
            wanted = house.take(2, framed("past 1 1"))
            upto = wanted[0][0][2]
        if wanted is None:
            return None
    if (tuple(sorted(answers)), away, upto) != (view[3], view[4], view[5]):
        return None
    return house.rows[1].begun


def is_plain_story(thing):
    if not is_kind(thing, tuple):
        return False
    for step in thing:
        if not is_kind(step, tuple) or not 1 <= len(step) <= 2 or not is_kind(step[0], str):
            return False
        if step not in (("begin",), ("leave",), ("close",)):
            if step[0] not in ("take", "answer") or len(step) != 2 or not is_kind(step[1], int) or step[1] < 1:
                return False
    return True


def is_plain_pair(view, number, thing):
    """Whether any value is a certificate."""
    if not is_kind(thing, tuple) or len(thing) != 2 or not all(map(is_plain_story, thing)):
        return False
    one, other = [fitting(view, story) for story in thing]
    return one is not None and other is not None and one < number <= other


def length_of_asks(bodies):
    return len(framed(*[f"ask {at + 1} {body}" for at, body in enumerate(bodies)]))


class Interface(Checks, unittest.TestCase):

    def test_parameters(self):
        self.assert_interface(knowledge, {
            "is_view": ["thing"], "view_new": ["house"], "asked": ["view", "body"], "heard": ["view", "message"],
            "told_upto": ["view", "number"], "broken": ["view"], "bounds": ["view"], "fate": ["view", "number"],
            "two_stories": ["view", "number"], "stories_hold": ["view", "number", "thing"],
            "story_begins": ["view", "story"]})

    def test_by_name(self):
        view = asked(body="x", view=asked(body="y", view=view_new(house="ann")))
        view = broken(view=heard(message=("answer", 1, "y"), view=heard(message=("hello", 1), view=view)))
        self.assertEqual(view, ("ann", 1, ("y", "x"), (1,), None, None, "broken"))
        self.assertEqual(bounds(view=view), (1, 2))
        self.assertEqual(fate(number=2, view=view), "open")
        pair = two_stories(number=2, view=view)
        self.assertIs(stories_hold(thing=pair, number=2, view=view), True)
        self.assertEqual([story_begins(story=story, view=view) for story in pair], [1, 2])
        self.assertEqual(told_upto(number=1, view=view)[5], 1)
        self.assertIs(is_view(thing=view), True)


class Forms(Checks, unittest.TestCase):

    def test_views(self):
        for view in VIEWS:
            self.assertTrue(is_plain_view(view))
            self.assert_bool(True, is_view, view)

    def test_one_part_otherwise(self):
        for view in VIEWS:
            for thing in spoiled(view):
                self.assert_bool(is_plain_view(thing), is_view, thing)

    def test_numbers_at_their_bounds_and_beyond(self):
        ends = (None, -1, 0, 1, 2, 3, True)
        some = ((), (1,), (2,), (1, 2), (2, 1), (1, 1), (3,), (0,), (0, 1), (1, 2, 3), (True,), [1], None)
        for boot, many, answers, away, upto in product((None, 1), range(3), some, ends, ends):
            view = ("ann", boot, BODIES[:many], answers, away, upto, "open")
            self.assertIs(is_view(view), is_plain_view(view), view)

    def test_each_field(self):
        for boot in (None, 0, 1, MOST):
            self.assert_bool(True, is_view, ("ann", boot, ("a",), (), None, None, "open"))
        for boot in (MOST + 1, -1, True, False, "1", (1,), ()):
            self.assert_bool(False, is_view, ("ann", boot, ("a",), (), None, None, "open"))
        for house in WORDS:
            self.assert_bool(True, is_view, (house, 1, ("a",), (), None, None, "open"))
        for house in NO_WORDS:
            self.assert_bool(False, is_view, (house, 1, ("a",), (), None, None, "open"))
        for body in NO_BODIES:
            self.assert_bool(False, is_view, ("ann", 1, ("a", body), (), None, None, "open"))
        for state in ("Open", "closed", "", "open ", None, True, ("open",), ["broken"]):
            self.assert_bool(False, is_view, ("ann", 1, ("a",), (), None, None, state))
        self.assert_bool(True, is_view, ("ann", 1, LONG, tuple(range(1, 41)), 40, 40, "broken"))
        self.assert_bool(False, is_view, ("ann", 1, LONG, tuple(range(1, 41)), 40, 41, "broken"))
        self.assert_bool(False, is_view, ("ann", 1, LONG, tuple(range(1, 42)), None, None, "broken"))
        self.assert_bool(False, is_view, ("ann", 1, LONG, tuple(range(1, 41)), 39, None, "broken"))

    def test_all_raise_bad_view_first(self):
        calls = ((asked, "\n"), (heard, None), (told_upto, None), (broken,), (bounds,), (fate, None), (two_stories, None),
                 (stories_hold, None, None), (story_begins, None))
        for view in VIEWS[2:5]:
            for thing in spoiled(view):
                if not is_plain_view(thing):
                    for function, *more in calls:
                        self.assert_error(BadView, {"thing": thing}, function, thing, *more)


class Seeing(Checks, unittest.TestCase):

    MESSAGES = (("hello", 0), ("hello", 1), ("hello", MOST), ("well",), *[("away", number) for number in (*range(5), MOST)],
                *[("answer", number, body) for number in (*range(1, 5), MOST) for body in ("", "x" * 150)])
    # Messages to a house, and messages from it that are not heard on this link; then values that are no messages.
    OTHERS = (("ask", 1, "a"), ("past", 1, 1), ("look",), ("upto", 1, 1), ("forgot", 1))
    NONE = (*NO_STRINGS, "well", "hello 1", ("well", 1), ("well ",), ("Well",), ["well"], (("well",), ("well",)), ("hello",),
            ("hello", -1), ("hello", True), ("hello", MOST + 1), ["hello", 1], ("hello", "1"), ("hello", 1, 1), ("away", -1),
            ("away", None), ("away", 1, "a"), ("answer", 0, "a"), ("answer", 1), ("answer", 1, "x" * 151),
            ("answer", True, "a"), ("answer", 1, "\n"))

    def test_new(self):
        for name in WORDS:
            self.assert_result((name, None, (), (), None, None, "open"), view_new, name)
        for name in NO_WORDS:
            self.assert_error(BadName, {"thing": name}, view_new, name)

    def test_asked(self):
        for view in all_views(3):
            for body in ("", "a", "x" * 150, " ~"):
                if view[6] == "broken":
                    self.assert_error(Broken, {"thing": "ann"}, asked, view, body)
                else:
                    self.assert_result(view[:2] + (view[2] + (body,),) + view[3:], asked, view, body)

    def test_asked_of_no_bodies(self):
        for view in VIEWS:
            for body in NO_BODIES:
                self.assert_error(BadBody, {"thing": body}, asked, view, body)

    def news(self, view, message):
        """The view after a message, or None if that can't be."""
        house, boot, bodies, answers, away, upto, state = view
        word, *items = message
        if word == "well":
            return view
        if word == "hello":
            return (house, items[0], bodies, answers, away, upto, state) if boot is None else None
        most = min(end for end in (len(bodies), away, upto) if end is not None)
        if boot is None or items[0] > most:
            return None
        if word == "away":
            good = away is None and upto in (None, items[0]) and max((0, *answers)) <= items[0]
            return (house, boot, bodies, answers, items[0], upto, state) if good else None
        if items[0] in answers:
            return None
        return (house, boot, bodies, tuple(sorted(answers + (items[0],))), away, upto, state)

    def test_heard(self):
        for view in all_views(3, states=("open",)):
            for message in self.MESSAGES:
                news = self.news(view, message)
                if news is None:
                    self.assert_error(BadNews, {"thing": message}, heard, view, message)
                else:
                    self.assertTrue(is_plain_view(news))
                    self.assert_result(news, heard, view, message)

    def test_heard_on_a_broken_link(self):
        for view in all_views(2, states=("broken",)):
            for message in self.MESSAGES:
                self.assert_error(Broken, {"thing": "ann"}, heard, view, message)

    def test_heard_of_other_values(self):
        for view in VIEWS:
            for message in self.OTHERS + self.NONE:
                self.assert_error(BadMessage, {"thing": message}, heard, view, message)

    def test_what_cannot_be_news(self):
        new, view = asked(view_new("ann"), "a"), heard(asked(asked(view_new("ann"), "a"), "b"), ("hello", 4))
        for known, message in (
                (new, ("answer", 1, "a")), (new, ("away", 0)), (new, ("away", 1)), (view, ("hello", 4)), (view, ("hello", 5)),
                (view, ("answer", 3, "a")), (view, ("away", 3)), (heard(view, ("answer", 2, "b")), ("answer", 2, "b")),
                (heard(view, ("answer", 2, "b")), ("away", 1)), (heard(view, ("away", 1)), ("away", 1)),
                (heard(view, ("away", 1)), ("away", 2)), (heard(view, ("away", 1)), ("answer", 2, "b")),
                (told_upto(view, 1), ("away", 2)), (told_upto(view, 1), ("away", 0)), (told_upto(view, 1), ("answer", 2, "b"))):
            self.assert_error(BadNews, {"thing": message}, heard, known, message)
        self.assertEqual(heard(told_upto(view, 1), ("away", 1))[3:6], ((), 1, 1))
        self.assertEqual(heard(heard(view, ("away", 1)), ("answer", 1, ""))[3:6], ((1,), 1, None))

    def test_told_upto(self):
        for view in all_views(3):
            house, boot, bodies, answers, away, upto, state = view
            for number in (*range(6), MOST):
                news = (house, boot, bodies, answers, away, number, state)
                if upto is None and is_plain_view(news):
                    self.assert_result(news, told_upto, view, number)
                else:
                    self.assert_error(BadNews, {"thing": number}, told_upto, view, number)

    def test_told_upto_of_no_numbers(self):
        for view in VIEWS:
            for number in NO_NUMBERS:
                self.assert_error(BadNumber, {"thing": number}, told_upto, view, number)

    def test_broken(self):
        for view in all_views(3):
            self.assert_result(view[:6] + ("broken",), broken, view)


class Bounds(Checks, unittest.TestCase):

    def test_bounds_and_fates(self):
        for view in all_views(4):
            low, high = plain_bounds(view)
            self.assert_result((low, high), bounds, view)
            for number in range(1, len(view[2]) + 1):
                wanted = "begun" if number <= low else "not begun" if number > high else "open"
                self.assert_result(wanted, fate, view, number)

    def test_numbers_of_no_request(self):
        for view in VIEWS + tuple(all_views(2)):
            for number in NO_NUMBERS + (0, len(view[2]) + 1, MOST):
                self.assert_error(BadNumber, {"thing": number}, fate, view, number)
                self.assert_error(BadNumber, {"thing": number}, two_stories, view, number)
                self.assert_error(BadNumber, {"thing": number}, stories_hold, view, number, ((), ()))

    def ends(self, bodies):
        """What some story of requests with these bodies leads to: for each outcome, the numbers that it begins."""
        frames = [framed(f"ask {at + 1} {body}") for at, body in enumerate(bodies)]
        found, waiting = {}, [()]
        states = set()
        while waiting:
            story = waiting.pop()
            end = played(bodies, story)
            taken = sum(word == "take" for word, *_ in story)
            state = (end, taken, ("leave",) in story)
            if end is None or state in states:
                continue
            states.add(state)
            found.setdefault(end[1:], set()).add(end[0])
            steps = [("begin",), ("leave",), ("close",), *[("answer", at + 1) for at in range(len(bodies))]]
            if taken < len(frames):
                steps.append(("take", len(frames[taken])))
            waiting.extend(story + (step,) for step in steps)
        return found

    def test_what_can_be_known(self):
        """[4.4]: exactly the numbers from low to high are begun by stories that fit."""
        for many in range(5):
            found = self.ends(BODIES[:many])
            for view in all_views(many, boots=(1,)):
                if len(view[2]) == many:
                    low, high = bounds(view)
                    self.assertEqual(found.get(view[3:6]), set(range(low, high + 1)), view)
            for outcome in found:
                self.assertTrue(is_view(("ann", 1, BODIES[:many], *outcome, "open")))


class Stories(Checks, unittest.TestCase):

    def test_all_short_stories(self):
        bodies = ("ab", "")
        steps = (("take", 5), ("take", 8), ("take", 11), ("begin",), ("answer", 1), ("answer", 2), ("leave",), ("close",))
        for many in range(5):
            for story in product(steps, repeat=many):
                end = played(bodies, story)
                seen = ("ann", 1, bodies, *(end or (0, (), None, None))[1:], "broken")
                for view in (seen, ("ann", None, bodies, (), None, None, "open")):
                    self.assertEqual(story_begins(view, story), fitting(view, story), story)
                    self.assertEqual(story_begins(view, story), played_by_house(view, story), story)
                if end is not None:
                    low, high = bounds(seen)
                    self.assertTrue(low <= story_begins(seen, story) <= high)

    def test_random_stories(self):
        """Stories that are mostly possible, with each view that they could be taken to fit."""
        random = Random(43)
        for _ in range(1500):
            bodies = tuple(random.choice(BODIES) for _ in range(random.randrange(5)))
            story = []
            for _ in range(random.randrange(14)):
                step = random.choice((("take", random.randrange(1, 25)), ("take", 9), ("begin",), ("begin",),
                                      ("answer", random.randrange(1, 4)), ("leave",), ("close",)))
                if played(bodies, (*story, step)) is not None or random.random() < 0.03:
                    story.append(step)
            story = tuple(story)
            outcome = (played(bodies, story) or (0, (), None, None))[1:]
            for state in ("open", "broken"):
                view = ("ann", 1, bodies, *outcome, state)
                self.assert_result(fitting(view, story), story_begins, view, story)
                self.assertEqual(played_by_house(view, story), fitting(view, story))

    STORY = (("take", 3), ("take", 16), ("begin",), ("answer", 1), ("take", 7), ("begin",), ("leave",), ("take", 1), ("answer", 2),
             ("close",), ("take", 2), ("close",))
    ASKED = ("ann", 1, ("ab", "c", "d", ""), (), None, None, "broken")

    def after(self, answers, away, upto):
        return self.ASKED[:3] + (answers, away, upto, "broken")

    def test_a_story_cut_anywhere(self):
        wanted = (*((0, (), None, None),) * 3, (1, (), None, None), *((1, (1,), None, None),) * 2, (2, (1,), None, None),
                  *((2, (1,), 2, None),) * 2, (2, (1, 2), 2, None), *((2, (1, 2), 2, 2),) * 3)
        self.assertEqual(len(wanted), len(self.STORY) + 1)
        ends = (None, 0, 1, 2)
        views = [self.after(*outcome) for outcome in product(((), (1,), (2,), (1, 2)), ends, ends)]
        for end, (begun, *outcome) in enumerate(wanted):
            for view in filter(is_view, views):
                self.assert_result(begun if view[3:6] == tuple(outcome) else None, story_begins, view, self.STORY[:end])

    def test_steps_that_are_not_possible(self):
        everything = length_of_asks(self.ASKED[2])
        ready = (("take", everything), ("begin",), ("begin",))
        begin, leave, close, answer = ("begin",), ("leave",), ("close",), ("answer", 1)
        outcomes = [(answers, away, upto) for answers in ((), (1,)) for away in (None, 0, 2) for upto in (None, 0, 2)]
        views = [view for view in [self.after(*outcome) for outcome in outcomes] if is_plain_view(view)]
        for story in ((begin,), (("take", 10), begin), (("take", 11), begin, begin), (("take", everything + 1),),
                      (("take", everything), ("take", 1)), (("take", 10 ** 30),), (*ready, ("answer", 3)),
                      (*ready, ("answer", 10 ** 30)), (*ready, leave, leave), (*ready, leave, close, leave),
                      (*ready, close, leave, leave), (*ready, leave, begin), (*ready, close, begin), (*ready, close, answer),
                      (*ready, answer, answer), (*ready, leave, close, answer), (leave, ("take", everything), begin),
                      (close, ("take", everything), begin), (leave, ("take", everything + 1)),
                      (close, ("take", everything), ("take", 1)), (answer,), (("take", 11), answer)):
            self.assertIsNone(played(self.ASKED[2], story))
            for view in views:
                self.assert_result(None, story_begins, view, story)

    def test_closing_again_and_leaving_after_it(self):
        ready = (("take", 20), ("begin",))
        close, leave = ("close",), ("leave",)
        for story, away, upto in (((*ready, close), None, 1), ((*ready, close, close), None, 1), ((*ready, close, leave), None, 1),
                                  ((*ready, close, leave, close), None, 1), ((*ready, leave, close), 1, 1),
                                  ((*ready, leave, close, close), 1, 1), ((*ready, leave), 1, None), ((leave,), 0, None),
                                  ((close,), None, 0), ((leave, close), 0, 0)):
            begun = 1 if story[:2] == ready else 0
            for one, two in product((None, 0, 1, 2), repeat=2):
                view = self.after((), one, two)
                if is_view(view):
                    self.assert_result(begun if (one, two) == (away, upto) else None, story_begins, view, story)

    def test_what_arrives_where_nothing_is_open_has_arrived(self):
        everything = length_of_asks(self.ASKED[2])
        for end in (("leave",), ("close",)):
            view = self.after((), 0, None) if end == ("leave",) else self.after((), None, 0)
            self.assert_result(0, story_begins, view, (end, ("take", everything)))
            self.assert_result(None, story_begins, view, (("take", 4), end, ("take", everything - 3)))
            self.assert_result(0, story_begins, view, (("take", 4), end, ("take", everything - 4)))

    def test_a_hello_and_the_state_do_not_matter(self):
        story = (("take", 11), ("begin",))
        for boot, state in product((None, 0, 1, 7, MOST), ("open", "broken")):
            self.assert_result(1, story_begins, ("ann", boot, ("ab",), (), None, None, state), story)

    def test_no_stories(self):
        story = (("take", 11), ("begin",), ("answer", 1), ("leave",), ("close",))
        self.assertTrue(is_plain_story(story))
        for thing in spoiled(story):
            if is_plain_story(thing):
                self.assert_result(fitting(self.ASKED, thing), story_begins, self.ASKED, thing)
            else:
                self.assert_error(BadStory, {"thing": thing}, story_begins, self.ASKED, thing)
                self.assert_bool(False, stories_hold, self.ASKED, 1, (thing, story))
                self.assert_bool(False, stories_hold, self.ASKED, 1, (story, thing))

    def test_no_steps(self):
        for step in (("take",), ("take", 0), ("take", -1), ("take", True), ("take", "1"), ("take", 1, 1), ("answer",),
                     ("answer", 0), ("answer", None), ("answer", True), ("begin", 1), ("leave", 1), ("close", 1),
                     ("begin", "begin"), ("look",), ("Begin",), ("fall",), (), ["begin"], "begin", None, 1, ("take", [1]),
                     (["take"], 1), ({}, 1), ({},), (("begin",),)):
            for story in ((step,), (("begin",), step), (step, ("begin",)), [step]):
                self.assert_error(BadStory, {"thing": story}, story_begins, self.ASKED, story)
        self.assert_error(BadStory, {"thing": [("begin",)]}, story_begins, self.ASKED, [("begin",)])

    def test_at_the_limits(self):
        view = ("ann", 10 ** 6, LONG, tuple(range(1, 41)), 40, 40, "broken")
        everything = length_of_asks(LONG)
        takes = (("take", everything // 200),) * 200 + (("take", 1),) * (everything % 200)
        begins = (("begin",),) * 40
        answers = tuple(("answer", number) for number in range(40, 0, -1))
        story = takes + begins + answers + (("leave",),) + (("close",),) * (400 - len(takes) - 81)
        self.assertEqual(len(story), 400)
        self.assertEqual(self.assert_quick(story_begins, view, story), 40)
        self.assertIsNone(self.assert_quick(story_begins, view, story[:-1] + (("begin",),)))


class Certificates(Checks, unittest.TestCase):

    def is_certified(self, view, number, pair):
        """The pair is accepted by the program, and by the steps of this test."""
        self.assert_bool(True, stories_hold, view, number, pair)
        self.assertTrue(is_plain_pair(view, number, pair), (view, number, pair))
        one, other = [played_by_house(view, story) for story in pair]
        self.assertTrue(one < number <= other)

    def test_each_open_request(self):
        for view in all_views(4):
            for number in range(1, len(view[2]) + 1):
                if fate(view, number) == "open":
                    self.is_certified(view, number, two_stories(view, number))
                else:
                    self.assert_error(NotOpen, {"number": number}, two_stories, view, number)

    def test_at_the_limits(self):
        for bodies in (LONG, ("",) * 40, ("~" * 150,) * 40, tuple("x" * many for many in range(40)), (",",) * 40):
            for answers in ((), (1,), (39,), tuple(range(1, 40)), tuple(range(1, 40, 2)), (2, 5, 20)):
                view = ("abcdefghij", 10 ** 6, bodies, answers, None, None, "broken")
                for number in (max((0, *answers)) + 1, 40):
                    pair = self.assert_quick(two_stories, view, number)
                    self.assertTrue(self.assert_quick(stories_hold, view, number, pair))
                    for story in pair:
                        self.assertEqual(self.assert_quick(story_begins, view, story), fitting(view, story))
                    self.is_certified(view, number, pair)

    def test_other_pairs_than_those_returned(self):
        view = ("ann", 1, ("x", "y", "z"), (1,), None, None, "broken")
        pair = ((("take", 1), ("take", 22), ("begin",), ("answer", 1)), (("take", 20), ("begin",), ("begin",), ("answer", 1)))
        self.is_certified(view, 2, pair)
        self.assert_bool(False, stories_hold, view, 3, pair)
        self.assert_bool(False, stories_hold, view, 1, pair)

    def test_no_pair_for_a_request_that_is_not_open(self):
        for view in all_views(3):
            stories = [((("take", length_of_asks(view[2][:many])),) if many else ()) + (("begin",),) * many
                       + tuple(("answer", number) for number in view[3])
                       + ((("leave",),) if view[4] is not None else ()) + ((("close",),) if view[5] is not None else ())
                       for many in range(len(view[2]) + 1)]
            for number in range(1, len(view[2]) + 1):
                for pair in product(stories, repeat=2):
                    self.assertIs(stories_hold(view, number, pair), is_plain_pair(view, number, pair))
                    if fate(view, number) != "open":
                        self.assertIs(stories_hold(view, number, pair), False)

    def test_exchanged_and_twice(self):
        for view in all_views(3):
            for number in range(1, len(view[2]) + 1):
                if fate(view, number) == "open":
                    one, other = two_stories(view, number)
                    for pair in ((other, one), (one, one), (other, other), (one,), (other,), (), (one, other, other),
                                 [one, other], (list(one), other), (one, list(other)), one, other, None, (one, None),
                                 (None, other), ((one, other),)):
                        self.assert_bool(False, stories_hold, view, number, pair)

    def changed(self, story):
        """The story with one step replaced, left out or repeated."""
        steps = (("take", 1), ("take", 9), ("take", 10), ("take", 11), ("begin",), ("answer", 1), ("answer", 3), ("leave",),
                 ("close",))
        for at in range(len(story)):
            yield story[:at] + story[at + 1:]
            yield story[:at + 1] + story[at:]
            for step in steps:
                yield story[:at] + (step,) + story[at + 1:]

    def test_one_step_otherwise(self):
        for view in (("ann", 1, ("x", "y", "z"), (1,), None, None, "broken"), ("ann", None, ("x", "y"), (), None, None, "open"),
                     ("ann", 2, ("", "", "", ""), (1, 2), None, None, "open")):
            low, high = bounds(view)
            for number in range(low + 1, high + 1):
                one, other = two_stories(view, number)
                results = set()
                for pair in [(story, other) for story in self.changed(one)] + [(one, story) for story in self.changed(other)]:
                    wanted = is_plain_pair(view, number, pair)
                    self.assert_bool(wanted, stories_hold, view, number, pair)
                    results.add(wanted)
                self.assertIn(False, results)

    def test_any_value(self):
        view = ("ann", 1, ("x", "y"), (1,), None, None, "broken")
        pair = ((("take", 10), ("begin",), ("answer", 1)), (("take", 20), ("begin",), ("begin",), ("answer", 1)))
        self.is_certified(view, 2, pair)
        for thing in spoiled(pair):
            self.assert_bool(is_plain_pair(view, 2, thing), stories_hold, view, 2, thing)


if __name__ == "__main__":
    unittest.main()
