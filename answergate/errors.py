"""All errors that the program raises."""


class GateError(Exception):
    """The base class of all errors of the program."""


class BadText(GateError):
    """The value is not a text, or not the text of a message."""

    def __init__(self, thing):
        self.thing = thing


class BadRest(GateError):
    """The value is not a rest."""

    def __init__(self, thing):
        self.thing = thing


class BadPiece(GateError):
    """The value is not a string to read."""

    def __init__(self, thing):
        self.thing = thing


class BadMessage(GateError):
    """The value is not a message, or not one of those asked for."""

    def __init__(self, thing):
        self.thing = thing


class BadLink(GateError):
    """The value is not a link."""

    def __init__(self, thing):
        self.thing = thing


class BadLabel(GateError):
    """The value is not a label that is possible here."""

    def __init__(self, thing):
        self.thing = thing


class BadName(GateError):
    """The value is not a name that is possible here."""

    def __init__(self, thing):
        self.thing = thing


class BadDirection(GateError):
    """The value is not a direction."""

    def __init__(self, thing):
        self.thing = thing


class BadNumber(GateError):
    """The value is not a number that is possible here."""

    def __init__(self, thing):
        self.thing = thing


class Broken(GateError):
    """The link is broken."""

    def __init__(self, thing):
        self.thing = thing


class BadHouse(GateError):
    """The value is not a house."""

    def __init__(self, thing):
        self.thing = thing


class NothingDue(GateError):
    """No request is left to begin on the link with this label."""

    def __init__(self, label):
        self.label = label


class NotDue(GateError):
    """No request with this number is begun and not answered."""

    def __init__(self, number):
        self.number = number


class NotUp(GateError):
    """The house with this name is not up."""

    def __init__(self, name):
        self.name = name


class IsUp(GateError):
    """The house with this name is up."""

    def __init__(self, name):
        self.name = name


class BadView(GateError):
    """The value is not a view."""

    def __init__(self, thing):
        self.thing = thing


class BadBody(GateError):
    """The value is not a body."""

    def __init__(self, thing):
        self.thing = thing


class BadNews(GateError):
    """The news does not agree with the view."""

    def __init__(self, thing):
        self.thing = thing


class NotOpen(GateError):
    """The request with this number is not open."""

    def __init__(self, number):
        self.number = number


class BadStory(GateError):
    """The value is not a story."""

    def __init__(self, thing):
        self.thing = thing


class BadPool(GateError):
    """The value is not a pool."""

    def __init__(self, thing):
        self.thing = thing


class BadCounts(GateError):
    """The value is not a tuple of counts that is possible here."""

    def __init__(self, thing):
        self.thing = thing


class BadLot(GateError):
    """The value is not a lot of the pool."""

    def __init__(self, thing):
        self.thing = thing


class BadWord(GateError):
    """The value is not a word."""

    def __init__(self, thing):
        self.thing = thing


class BadRule(GateError):
    """The value is not a health rule."""

    def __init__(self, thing):
        self.thing = thing


class BadMark(GateError):
    """The value is not a mark."""

    def __init__(self, thing):
        self.thing = thing


class BadBool(GateError):
    """The value is not a bool."""

    def __init__(self, thing):
        self.thing = thing


class BadSettings(GateError):
    """The value is not settings."""

    def __init__(self, thing):
        self.thing = thing


class BadProxy(GateError):
    """The value is not a proxy."""

    def __init__(self, thing):
        self.thing = thing


class Known(GateError):
    """The proxy has a request with this client and number already."""

    def __init__(self, client, number):
        self.client = client
        self.number = number


class NoRequest(GateError):
    """The proxy has no request with this client and number."""

    def __init__(self, client, number):
        self.client = client
        self.number = number


class BadEvent(GateError):
    """The value is not an event that can happen."""

    def __init__(self, thing):
        self.thing = thing


class BadWorld(GateError):
    """The value is not a world."""

    def __init__(self, thing):
        self.thing = thing


class BadStep(GateError):
    """The value is not a step that is possible."""

    def __init__(self, thing):
        self.thing = thing


class BadPast(GateError):
    """The value is not a past."""

    def __init__(self, thing):
        self.thing = thing


class NotUnknown(GateError):
    """The last step does not answer a request by unknown."""

    def __init__(self):
        pass


class BadScript(GateError):
    """No script begins with the lines up to the one with this number."""

    def __init__(self, at):
        self.at = at
