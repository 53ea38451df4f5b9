"""All exceptions of Keptnomore."""


def own_copy(value):
    """The value with lists and dicts of its own: those that were passed may be changed later."""
    if isinstance(value, list):
        return [own_copy(item) for item in value]
    if isinstance(value, tuple):
        return tuple([own_copy(item) for item in value])
    if isinstance(value, dict):
        return {key: own_copy(value[key]) for key in value}
    return value


class KeptError(ValueError):
    """What all exceptions here but NotPending are derived from."""


class NoKinds(KeptError):
    """A row of a text of kinds is none."""

    def __init__(self, row):
        super().__init__("no row of kinds")
        self.row = own_copy(row)


class NoRules(KeptError):
    """A row of a text of rules is none."""

    def __init__(self, row):
        super().__init__("no row of rules")
        self.row = own_copy(row)


class NoQuestion(KeptError):
    """By a word a text can't be a question any more, or it ends too early."""

    def __init__(self, at):
        super().__init__("no question")
        self.at = own_copy(at)


class NoTree(KeptError):
    """By a word or an event a row can't be a tree any more, or it ends too early."""

    def __init__(self, at):
        super().__init__("no tree")
        self.at = own_copy(at)


class NoBundle(KeptError):
    """By a word or an event a row can't be a bundle any more, or it ends amid a tree."""

    def __init__(self, at):
        super().__init__("no bundle")
        self.at = own_copy(at)


class TooMany(KeptError):
    """There are more of something than the limits allow."""

    def __init__(self, word):
        super().__init__("too many")
        self.word = own_copy(word)


class TooGreat(KeptError):
    """The product of a space is above its limit."""

    def __init__(self, product):
        super().__init__("too great a product")
        self.product = own_copy(product)


class UnknownKind(KeptError):
    """A kind is none of the kinds."""

    def __init__(self, kind):
        super().__init__("unknown kind")
        self.kind = own_copy(kind)


class NoDocument(KeptError):
    """No document is allowed."""

    def __init__(self):
        super().__init__("no document is allowed")


class NoEvent(KeptError):
    """A value is no event."""

    def __init__(self, event):
        super().__init__("no event")
        self.event = own_copy(event)


class Refused(KeptError):
    """An event, or a bundle, is not allowed."""

    def __init__(self, event):
        super().__init__("refused")
        self.event = own_copy(event)


class RefusedAt(KeptError):
    """An event of a row is not allowed."""

    def __init__(self, at):
        super().__init__("an event of the row is refused")
        self.at = own_copy(at)


class Resting(KeptError):
    """The house rests."""

    def __init__(self):
        super().__init__("the house rests")


class OtherSpace(KeptError):
    """The spaces are not equal."""

    def __init__(self):
        super().__init__("another space")


class NoCommand(KeptError):
    """A row is no command, or it is none at this time."""

    def __init__(self, row):
        super().__init__("no command")
        self.row = own_copy(row)


class NotPending(KeyError):
    """A node is not pending for a question."""

    def __init__(self, question, mark):
        super().__init__("not pending")
        self.question = own_copy(question)
        self.mark = own_copy(mark)
