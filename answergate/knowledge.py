"""Knowledge: what the proxy has seen of a link, and which of its requests the house has surely begun."""

from answergate.basics import are_counted, is_integer, is_number, is_word
from answergate.errors import BadBody, BadMessage, BadName, BadNews, BadNumber, BadStory, BadView, Broken, NotOpen
from answergate.messages import is_body, is_message
from answergate.stories import course_of, is_story, plain_story

HEARD = ("hello", "answer", "away", "well")


def is_view(thing):
    if not isinstance(thing, tuple) or len(thing) != 7:
        return False
    house, boot, bodies, answers, away, upto, state = thing
    if not is_word(house) or state not in ("open", "broken"):
        return False
    if not isinstance(bodies, tuple) or not all([is_body(body) for body in bodies]):
        return False
    if boot is None:
        return answers == () and away is None and upto is None
    ends = [end for end in (away, upto) if end is not None]
    if not is_number(boot) or not all([is_number(end) and end <= len(bodies) for end in ends]):
        return False
    return len(set(ends)) <= 1 and are_counted(answers, min([len(bodies), *ends]))


def view_new(house):
    if not is_word(house):
        raise BadName(house)
    return (house, None, (), (), None, None, "open")


def asked(view, body):
    """The view after a request more was written to the link."""
    if not is_view(view):
        raise BadView(view)
    if not is_body(body):
        raise BadBody(body)
    house, boot, bodies, answers, away, upto, state = view
    if state == "broken":
        raise Broken(house)
    return (house, boot, (*bodies, body), answers, away, upto, state)


def heard(view, message):
    """The view after a message was received on the link."""
    if not is_view(view):
        raise BadView(view)
    if not is_message(message) or message[0] not in HEARD:
        raise BadMessage(message)
    house, _, _, _, _, _, state = view
    if state == "broken":
        raise Broken(house)
    news = with_message(view, message)
    if not is_view(news):
        raise BadNews(message)
    return news


def with_message(view, message):
    """The view with what a message says, perhaps not a view any more, or None if it was said before."""
    house, boot, bodies, answers, away, upto, state = view
    word = message[0]
    if word == "well":
        return view
    number = message[1]
    if word == "hello" and boot is None:
        return (house, number, bodies, answers, away, upto, state)
    if word == "answer" and number not in answers:
        return (house, boot, bodies, tuple(sorted([*answers, number])), away, upto, state)
    if word == "away" and away is None:
        return (house, boot, bodies, answers, number, upto, state)
    return None


def told_upto(view, number):
    """The view after an upto for its link was received, on this or a later link."""
    if not is_view(view):
        raise BadView(view)
    if not is_number(number):
        raise BadNumber(number)
    house, boot, bodies, answers, away, upto, state = view
    news = (house, boot, bodies, answers, away, number, state)
    if upto is not None or not is_view(news):
        raise BadNews(number)
    return news


def broken(view):
    if not is_view(view):
        raise BadView(view)
    house, boot, bodies, answers, away, upto, _ = view
    return (house, boot, bodies, answers, away, upto, "broken")


def bounds(view):
    """The pair of the low and the high bound."""
    if not is_view(view):
        raise BadView(view)
    _, _, bodies, answers, away, upto, _ = view
    ends = [end for end in (away, upto) if end is not None]
    return (max([0, *answers, *ends]), min([len(bodies), *ends]))


def fate(view, number):
    low, high = bounds(view)
    if not is_integer(number) or not 1 <= number <= len(view[2]):
        raise BadNumber(number)
    if number <= low:
        return "begun"
    return "not begun" if number > high else "open"


def two_stories(view, number):
    """A pair of stories that fit the view, where the first does not begin this request and the second does."""
    if fate(view, number) != "open":
        raise NotOpen(number)
    low, high = bounds(view)
    _, _, bodies, answers, _, _, _ = view
    return (plain_story(bodies, low, answers), plain_story(bodies, high, answers))


def stories_hold(view, number, thing):
    """Whether any value is such a pair."""
    # It raises what is to be raised. A request that is not open needs no test: no pair of stories differs about it.
    fate(view, number)
    if not isinstance(thing, tuple) or len(thing) != 2 or not all([is_story(story) for story in thing]):
        return False
    one, other = [story_begins(view, story) for story in thing]
    if one is None or other is None:
        return False
    return one < number <= other


def story_begins(view, story):
    """The number of requests that the story begins if it fits the view, otherwise None."""
    if not is_view(view):
        raise BadView(view)
    if not is_story(story):
        raise BadStory(story)
    _, _, bodies, answers, away, upto, _ = view
    course = course_of(bodies, story)
    if course is None or (course.answers, course.away, course.upto) != (answers, away, upto):
        return None
    return course.begun()
