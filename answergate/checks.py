"""Checks: what a past must keep, what the proxy experiences, and twins for what it cannot know."""

from answergate.basics import is_integer, is_number, is_word
from answergate.errors import BadPast, BadSettings, NotUnknown
from answergate.pasts import is_entry, judged
from answergate.proxies import is_settings
from answergate.steps import played
from answergate.twinning import is_unknown, reel_of, twins_of


def is_past(thing):
    return isinstance(thing, tuple) and all([is_entry(entry) for entry in thing])


def judge_past(past):
    """The certificate for a past: that it is kept, or what breaks it first."""
    if not is_past(past):
        raise BadPast(past)
    return judged(past)


def past_holds(past, thing):
    """Whether any value is the certificate for a past."""
    certificate = judge_past(past)
    # True is equal to 1, but no number.
    return isinstance(thing, tuple) and thing == certificate and is_integer(thing[1])


def hearing(settings, steps):
    """What the proxy experiences in a tuple of steps from a new world."""
    return tuple(played(settings, steps).hearing)


def twins(settings, steps):
    """Twins for the request that the last step answers by unknown, with the hearing of the steps."""
    played(settings, steps)
    reel = reel_of(settings, steps)
    names = [entry[1:3] for entry in reel.news if is_unknown(entry)]
    if names == []:
        raise NotUnknown()
    client, number = names[0]
    return twins_of(settings, reel, client, number)


def twins_hold(settings, client, number, thing):
    """Whether any value is twins for this request."""
    if not is_settings(settings):
        raise BadSettings(settings)
    if not is_word(client) or not is_number(number) or not isinstance(thing, tuple) or len(thing) != 2:
        return False
    reels = [reel_of(settings, steps) if isinstance(steps, tuple) else None for steps in thing]
    if None in reels:
        return False
    one, other = reels
    if one.scene.hearing != other.scene.hearing:
        return False
    if not is_doubtful(one, client, number) or not is_doubtful(other, client, number):
        return False
    return is_begun(one, client, number) and not is_begun(other, client, number)


def is_doubtful(reel, client, number):
    """Whether the last step of a reel answers this request by unknown."""
    return (client, number) in [entry[1:3] for entry in reel.news if is_unknown(entry)]


def is_begun(reel, client, number):
    return ("begun", client, number) in [entry[:3] for entry in reel.scene.past]
