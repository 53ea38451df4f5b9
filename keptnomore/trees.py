"""Documents: trees of named and marked nodes, and the events that they come as."""

from keptnomore.errors import NoTree
from keptnomore.words import is_figure, is_name, words_in


def is_word(value, word):
    """Whether a value of any kind is this word."""
    return isinstance(value, str) and value == word


def is_mark(value):
    """Whether a value of any kind is a mark."""
    return isinstance(value, int) and not isinstance(value, bool) and value >= 0


def is_event(value):
    """Whether a value of any kind is an event."""
    if not isinstance(value, tuple):
        return False
    if len(value) == 1:
        return is_word(value[0], "close")
    if len(value) != 3 or not is_word(value[0], "open"):
        return False
    return isinstance(value[1], str) and is_name(value[1]) and is_mark(value[2])


def word_of(event):
    """The word that an event is written as."""
    if len(event) == 1:
        return "/"
    return f"{event[1]}:{event[2]}"


def event_of(word):
    """The event that a word stands for, or None if it stands for none."""
    if word == "/":
        return ("close",)
    name, _, figure = word.partition(":")
    if is_name(name) and is_figure(figure):
        return ("open", name, int(figure))
    return None


def words_of(events):
    """The row of these events."""
    return " ".join([word_of(event) for event in events])


def events_of(text):
    """The list of the events in a row."""
    events = [event_of(word) for word in words_in(text)]
    for at, event in enumerate(events):
        if event is None:
            raise NoTree(at)
    return events


def families_of(tree):
    """For each node the places of its children; places count the nodes in the order in which they open."""
    nodes = list(tree)
    families = [[] for _ in nodes]
    orphans = []
    # Backwards, the nodes without a parent so far that opened first behind a node are its children.
    for place in reversed(range(len(nodes))):
        families[place] = [orphans.pop() for _ in nodes[place].children]
        orphans.append(place)
    return families


class Tree:
    """A node with all that is below it."""

    def __init__(self, name, mark, children=()):
        self.name = name
        self.mark = mark
        self.children = tuple(children)
        nodes = [self]
        for child in self.children:
            nodes.extend(list(child))
        self._nodes = tuple(nodes)

    def __len__(self):
        return len(self._nodes)

    def __iter__(self):
        return iter(self._nodes)

    def __eq__(self, other):
        return isinstance(other, Tree) and self.outline() == other.outline()

    def __str__(self):
        return " ".join([word_of(event) for event in self.listed()])

    def outline(self):
        """All that makes two trees equal; a list, since comparing within one another fails for deep trees."""
        return [(node.name, node.mark, len(node.children)) for node in self._nodes]

    def listed(self):
        """The list of its events."""
        found = []
        waiting = [self]
        while waiting:
            node = waiting.pop()
            if node is None:
                found.append(("close",))
            else:
                found.append(("open", node.name, node.mark))
                waiting.append(None)
                waiting.extend(node.children[::-1])
        return found

    def events(self):
        """The events of the tree, one after another."""
        for event in self.listed():
            yield event

    @staticmethod
    def read(text):
        """The tree whose events stand in the row."""
        return Tree.from_events([event_of(word) for word in words_in(text)])

    @staticmethod
    def from_events(events):
        """The tree whose events these are."""
        opened = []
        root = None
        for at, event in enumerate(events):
            if root is not None or not is_event(event):
                raise NoTree(at)
            if len(event) == 3:
                opened.append((event[1], event[2], []))
                continue
            if not opened:
                raise NoTree(at)
            name, mark, children = opened.pop()
            node = Tree(name, mark, children)
            if opened:
                opened[-1][2].append(node)
            else:
                root = node
        if root is None:
            raise NoTree(len(events))
        return root
