"""Links: the characters in flight between the proxy and a house."""

from answergate.basics import is_number, is_plain, is_word
from answergate.errors import BadDirection, BadLabel, BadLink, BadName, BadNumber, Broken
from answergate.frames import TEXT_MOST, frame, next_frame
from answergate.messages import message_text, side

# The longest frame: a text of 200 characters with "200:" in front and a comma behind.
TAIL_MOST = 205


def is_tail(string):
    """Whether a string is empty or a suffix of a frame."""
    if string == "":
        return True
    inner = string[:-1]
    if string[-1] != "," or not is_plain(inner):
        return False
    if len(inner) <= TEXT_MOST:
        return True
    # Longer than a text, it must begin with the last digits of a frame, or with its colon.
    return any([f"{many}:".endswith(inner[:len(inner) - many]) for many in range(TEXT_MOST + 1)])


def is_flight(thing):
    """Whether any value is a string of a tail and any number of frames behind it."""
    if not isinstance(thing, str):
        return False
    # From none of the seen positions on there are only frames, so none of them is tried twice.
    seen = set()
    for start in range(min(len(thing), TAIL_MOST) + 1):
        if not is_tail(thing[:start]):
            continue
        at = start
        while at < len(thing) and at not in seen:
            seen.add(at)
            kind, _, end = next_frame(thing, at)
            if kind == "whole":
                at = end
        if at == len(thing):
            return True
    return False


def is_link(thing):
    if not isinstance(thing, tuple) or len(thing) != 5:
        return False
    label, house, toward, back, state = thing
    if not is_number(label) or not is_word(house):
        return False
    if state == "broken":
        return toward == "" and back == ""
    return state == "open" and is_flight(toward) and is_flight(back)


def link_new(label, house):
    if not is_number(label):
        raise BadLabel(label)
    if not is_word(house):
        raise BadName(house)
    return (label, house, "", "", "open")


def wrote(link, message):
    """The link after a message was written to it."""
    if not is_link(link):
        raise BadLink(link)
    direction = side(message)
    label, house, toward, back, state = link
    if state == "broken":
        raise Broken(label)
    written = frame(message_text(message))
    if direction == "toward":
        return (label, house, toward + written, back, state)
    return (label, house, toward, back + written, state)


def moved(link, direction, many):
    """The link without its first many characters in flight in this direction, and these characters."""
    if not is_link(link):
        raise BadLink(link)
    if direction not in ("toward", "back"):
        raise BadDirection(direction)
    if not is_number(many):
        raise BadNumber(many)
    label, house, toward, back, state = link
    if direction == "toward":
        return ((label, house, toward[many:], back, state), toward[:many])
    return ((label, house, toward, back[many:], state), back[:many])


def broke(link):
    if not is_link(link):
        raise BadLink(link)
    label, house, _, _, _ = link
    return (label, house, "", "", "broken")
