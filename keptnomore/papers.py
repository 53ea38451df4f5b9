"""Papers, which show that a node is pending."""

from keptnomore.errors import NoTree, own_copy
from keptnomore.trees import Tree, is_event, is_mark


def document_of(events):
    """The tree whose events these are, or None if they are none of one tree."""
    try:
        return Tree.from_events(events)
    except NoTree:
        return None


class Paper:
    """Two going ons: one that selects the node, and one that doesn't."""

    def __init__(self, question, mark, yes, no):
        self.question = own_copy(question)
        self.mark = own_copy(mark)
        self.yes = own_copy(yes)
        self.no = own_copy(no)

    def __eq__(self, other):
        if not isinstance(other, Paper):
            return False
        return (self.question == other.question and self.mark == other.mark
                and self.yes == other.yes and self.no == other.no)

    def holds(self, space, events):
        """Whether the paper shows this for a document of which these events came so far."""
        if not is_mark(self.question) or self.question >= len(space) or not is_mark(self.mark):
            return False
        if not isinstance(self.yes, tuple) or not isinstance(self.no, tuple):
            return False
        if self.mark not in [event[2] for event in events if is_event(event) and len(event) == 3]:
            return False
        return (self._picked(space, list(events) + list(self.yes)) is True
                and self._picked(space, list(events) + list(self.no)) is False)

    def _picked(self, space, events):
        """Whether the question selects the node in an allowed whole document; None if this is none."""
        tree = document_of(events)
        if tree is None or [node.mark for node in tree].count(self.mark) != 1:
            return None
        if not space.rules.lets(space.kinds, tree):
            return None
        return self.mark in space.questions[self.question].picks(space.kinds, tree)
